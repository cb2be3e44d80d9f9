"""The choices of a station."""

from lossway.checks import is_between
from lossway.curves import is_kind
from lossway.errors import InvalidSetting
from lossway.ring import is_size

# In the order of the document, so that a choice is checked after those that bound it.
DEFAULTS = {
    "size": 1024, "inbox": 64, "outbox": 64, "piece": 8, "least": 4, "control": "climb", "low": 2, "high": 64,
    "tries": 6, "life": 8, "delay": 1, "join": True, "tell": True, "seek": False, "alive": 0, "rest": 64, "fresh": 64,
}
BOUNDS = {
    "outbox": (1, 65535), "piece": (1, 1400), "low": (1, 100000), "tries": (1, 60), "life": (1, 1000),
    "delay": (0, 1000), "alive": (0, 100000), "rest": (1, 100000), "fresh": (1, 100000),
}


def is_choice(name, choices):
    """True if the choice of this name is valid beside the choices that stand before it."""
    value = choices[name]
    if name == "size":
        return is_size(value)
    if name == "control":
        return is_kind(value)
    if name in ("join", "tell", "seek"):
        return isinstance(value, bool)
    low, high = bounds_of(name, choices)
    return is_between(value, low, high)


def bounds_of(name, choices):
    """The least and the greatest number that may be chosen."""
    if name == "inbox":
        return 1, min(65535, choices["size"] // 4)
    if name == "least":
        return 1, choices["piece"]
    if name == "high":
        return choices["low"], 100000
    return BOUNDS[name]


class Settings:
    """The choices of a station, each with its default."""

    def __init__(self, **choices):
        for name in choices:
            if name not in DEFAULTS:
                raise InvalidSetting(name)
        chosen = dict(DEFAULTS)
        chosen.update(choices)
        for name in DEFAULTS:
            if not is_choice(name, chosen):
                raise InvalidSetting(name)
        self.size = chosen["size"]
        self.inbox = chosen["inbox"]
        self.outbox = chosen["outbox"]
        self.piece = chosen["piece"]
        self.least = chosen["least"]
        self.control = chosen["control"]
        self.low = chosen["low"]
        self.high = chosen["high"]
        self.tries = chosen["tries"]
        self.life = chosen["life"]
        self.delay = chosen["delay"]
        self.join = chosen["join"]
        self.tell = chosen["tell"]
        self.seek = chosen["seek"]
        self.alive = chosen["alive"]
        self.rest = chosen["rest"]
        self.fresh = chosen["fresh"]

    def __eq__(self, other):
        return isinstance(other, Settings) and self.row() == other.row()

    def row(self):
        """The values, in the order of the document."""
        return (
            self.size, self.inbox, self.outbox, self.piece, self.least, self.control, self.low, self.high,
            self.tries, self.life, self.delay, self.join, self.tell, self.seek, self.alive, self.rest, self.fresh,
        )

    def changed(self, **choices):
        """Other settings in which the named choices are replaced."""
        chosen = dict(zip(list(DEFAULTS), self.row()))
        chosen.update(choices)
        return Settings(**chosen)
