"""The plain player: every net whose first lists have fates from a menu."""

from lossway.calls import is_call
from lossway.checks import is_at_least, is_between, is_sequence
from lossway.errors import InvalidDeed, InvalidNumber, InvalidSetting, LossError, TooMany
from lossway.events import frozen, is_told_call
from lossway.fates import is_fate
from lossway.ledgers import is_sound
from lossway.world import World

COPIES = 8
MOST_DEPTH = 12
MOST_TICKS = 1000
MOST_PLAYS = 100000


def is_row(value):
    """True for a row of a script."""
    if not is_sequence(value) or len(value) != 5:
        return False
    tick, side, name, values, options = value
    if not is_at_least(tick, 0) or not is_between(side, 0, 1) or not is_told_call(name, values, options):
        return False
    return is_call(name, values, [option for option, _ in options])


def require_script(script):
    """Raise InvalidDeed with the first wrong row, or with what is no sequence of rows."""
    if not is_sequence(script):
        raise InvalidDeed(script)
    least = 0
    for row in script:
        if not is_row(row) or row[0] < least:
            raise InvalidDeed(row)
        least = row[0]


def is_menu(value, life):
    """True for a sequence of at least one fate."""
    return is_sequence(value) and len(value) > 0 and all([is_fate(fate, life, COPIES) for fate in value])


def rows_by_tick(script):
    """The rows of a script by their ticks."""
    rows = {}
    for row in script:
        rows.setdefault(row[0], []).append(row)
    return rows


class Plays:
    """Worlds in which the same calls are made, over all nets that a menu of fates allows."""

    def __init__(self, first, second, script, *, menu, depth, ticks, most=4096):
        World(first, second, copies=COPIES)
        require_script(script)
        if not is_menu(menu, first.life):
            raise InvalidSetting("menu")
        for number, least, greatest in ((depth, 0, MOST_DEPTH), (ticks, 0, MOST_TICKS), (most, 1, MOST_PLAYS)):
            if not is_between(number, least, greatest):
                raise InvalidNumber(number)
        self._first = first
        self._second = second
        self._rows = rows_by_tick(frozen(script))
        self._menu = frozen(menu)
        self._depth = depth
        self._ticks = ticks
        self._most = most

    def plays(self):
        """Yield all complete choices in ascending order, each with its world."""
        chosen = (0,) * self._depth
        number = 0
        while chosen is not None:
            if number == self._most:
                raise TooMany(self._most)
            number += 1
            world = self.play(chosen)
            # What was chosen for lists that were not sent has no part in the play.
            world.net.end_common()
            chosen = chosen[:sent_lists(world)]
            yield chosen, world
            chosen = self._following(chosen)

    def play(self, choices):
        """The world of these choices, played to its end."""
        greatest = len(self._menu) - 1
        if not is_sequence(choices) or not all([is_between(index, 0, greatest) for index in choices]):
            raise InvalidNumber(choices)
        common = [self._menu[index] for index in choices]
        world = World(self._first, self._second, copies=COPIES, common=common)
        for tick in range(self._ticks + 1):
            for row in self._rows.get(tick, ()):
                attempt(world, row)
            if tick < self._ticks:
                world.advance()
        return world

    def unsound(self):
        """The first complete choices whose ledger is unsound, or None."""
        for choices, world in self.plays():
            if not is_sound(world.ledger()):
                return choices
        return None

    def costliest(self):
        """The complete choices whose play sends the most lists, of several the first ones."""
        greatest = -1
        found = ()
        for choices, world in self.plays():
            if sent_lists(world) > greatest:
                greatest = sent_lists(world)
                found = choices
        return found

    def _following(self, choices):
        """The least choices behind these and all that begin with them, as long as may be; None if there are none."""
        last = len(self._menu) - 1
        least = choices
        while len(least) > 0 and least[-1] == last:
            least = least[:-1]
        if len(least) == 0:
            return None
        return least[:-1] + (least[-1] + 1,) + (0,) * (self._depth - len(least))


def sent_lists(world):
    """The number of lists that both sides have sent."""
    return world.net.sent(0) + world.net.sent(1)


def attempt(world, row):
    """Make the call of a row; one that raises an error is passed over."""
    _, side, name, values, options = row
    try:
        world.make_call(side, name, values, dict(options))
    except LossError:
        pass
