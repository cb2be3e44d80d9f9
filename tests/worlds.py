"""Drawn worlds: settings, fates and users that a seed decides, for the tests of whole worlds."""

from random import Random

from lossway.errors import LossError
from lossway.settings import Settings
from lossway.world import World

CONTROLS = ("fixed", "climb", "curve", "delay")


def drawn_fate(random, life, losses=0.3, bends=0.2):
    """A fate that loses the list, or has one or two copies, some of them bent."""
    if random.random() < losses:
        return ()
    copies = []
    for _ in range(random.choice((1, 1, 2))):
        delay = random.randint(1, life)
        bent = (delay, random.randint(0, 65535), random.randint(1, 65535))
        copies.append(bent if random.random() < bends else delay)
    return tuple(copies)


def drawn_plans(random, life, most=60):
    return [[drawn_fate(random, life) for _ in range(random.randint(0, most))] for _ in range(2)]


def drawn_settings(random, size, life, **choices):
    """Any settings for a ring and a net."""
    piece = random.randint(1, 12)
    low = random.randint(1, 20)
    drawn = {
        "size": size, "inbox": random.randint(1, min(64, size // 4)), "outbox": random.randint(1, 64),
        "piece": piece, "least": random.randint(1, piece), "control": random.choice(CONTROLS), "low": low,
        "high": random.randint(low, 100), "tries": random.randint(1, 6), "life": life,
        "delay": random.randint(0, 3), "join": random.random() < 0.5, "tell": random.random() < 0.5,
        "seek": random.random() < 0.5, "alive": random.choice((0, 0, 5, 20)), "rest": random.randint(1, 70),
        "fresh": random.randint(1, 70),
    }
    return Settings(**{**drawn, **choices})


class Users:
    """The users of both sides of a world, who call what a seed decides; refused calls are passed over."""

    def __init__(self, random, world, barred=()):
        self.random = random
        self.world = world
        self.barred = barred
        self.handles = ([], [])
        self.refused = 0
        # Every connection that was ever seen at a station, by its side and its mark.
        self.seen = {}

    def call(self, side, name, *values, **options):
        try:
            result = self.world.call(side, name, *values, **options)
        except LossError:
            self.refused += 1
            return None
        self.look()
        return result

    def look(self):
        for side, station in enumerate(self.world.stations):
            for connection in station._connections.values():
                self.seen[side, connection.mark] = connection

    def act(self, side):
        """One call of a user, or a few ticks."""
        random = self.random
        name = random.choices(
            ("connect", "accept", "write", "urge", "read", "close", "abort", "resize", "forget", "crash", "start",
             "unlisten", "listen", "tick"),
            (5, 10, 12, 3, 20, 2, 1, 2, 2, 0.5, 3, 0.3, 2, 40),
        )[0]
        if name == "tick" or name in self.barred:
            for _ in range(random.randint(1, 4)):
                self.world.advance()
                self.look()
        elif name in ("connect", "accept"):
            source = random.choice((None, None, 80, 81, 5))
            options = {"source": source} if name == "connect" else {}
            handle = self.call(side, name, random.choice((80, 80, 80, 81)), **options)
            if handle is not None:
                self.handles[side].append(handle)
        elif name in ("unlisten", "listen"):
            self.call(side, name, 80)
        elif name in ("crash", "start"):
            self.call(side, name)
        elif self.handles[side]:
            self.use(side, name, random.choice(self.handles[side]))

    def use(self, side, name, handle):
        random = self.random
        if name in ("write", "urge"):
            self.call(side, name, handle, [random.randint(0, 255) for _ in range(random.randint(0, 40))])
        elif name in ("read", "resize"):
            self.call(side, name, handle, random.randint(1, self.world.stations[side].settings.size // 4))
        else:
            self.call(side, name, handle)


def drawn_world(seed, steps=250, barred=(), **choices):
    """A world that its users have led for a while, the users, and its two settings."""
    random = Random(seed)
    size = random.choice((64, 128, 1024, 4294967296))
    life = random.randint(1, 9)
    settings = [drawn_settings(random, size, life, **choices) for _ in range(2)]
    common = [drawn_fate(random, life) for _ in range(random.randint(0, 3))]
    world = World(*settings, girth=random.choice((1400, 1400, 6)), plans=drawn_plans(random, life), common=common)
    users = Users(random, world, barred)
    for side in (0, 1):
        users.call(side, "listen", 80, backlog=random.choice((0, 1, 2)))
    for _ in range(steps):
        users.act(random.randint(0, 1))
    return world, users, settings


def lists_of(trace, name):
    """The words of the events of one kind."""
    return [event[1] for event in trace if event[0] == name]


def open_world(first=None, second=None, **choices):
    """A world with one connection that is open at both ends and known to both users, each by the handle 1."""
    first = Settings() if first is None else first
    world = World(first, first if second is None else second, **choices)
    world.call(1, "listen", 80)
    world.call(0, "connect", 80)
    for _ in range(3000):
        world.advance()
        if world.call(1, "accept", 80) is not None:
            return world
    raise AssertionError("not opened")


def look(world):
    """All that can be asked of a world, for comparing."""
    return (
        world.now, world.quiet, world.trace(0), world.trace(1), world.ledger(), world.net.flying,
        [world.net.sent(side) for side in (0, 1)], [station_look(station) for station in world.stations],
    )


def station_look(station):
    if station.down:
        return (station.now, station.era, station.used)
    handles = station.handles()
    return (station.now, station.era, station.used, handles, [station.status(handle) for handle in handles])
