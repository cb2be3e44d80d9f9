"""The net between two sides."""

from lossway.checks import is_between, is_sequence
from lossway.errors import InvalidFate, InvalidNumber, InvalidSetting
from lossway.fates import bent, is_fate, kept, require_fates
from lossway.segments import MOST_BYTES
from lossway.words import BYTES

# The fate of a list behind the end of a plan.
PLAIN = ((1, 0, 0),)
MOST_LIFE = 1000
MOST_COPIES = 8
# The side that stands for both.
BOTH = 2


def is_plans(value):
    """True for a sequence of two sequences."""
    return is_sequence(value) and len(value) == 2 and is_sequence(value[0]) and is_sequence(value[1])


def require_side(side):
    """Raise InvalidNumber unless this is a side."""
    if not is_between(side, 0, 1):
        raise InvalidNumber(side)


class Net:
    """Lists of words that fly between the sides 0 and 1, each as its fate says."""

    def __init__(self, *, life, copies=2, girth=1400, plans=((), ()), common=()):
        if not is_between(life, 1, MOST_LIFE):
            raise InvalidSetting("life")
        if not is_between(copies, 1, MOST_COPIES):
            raise InvalidSetting("copies")
        if not is_between(girth, 1, MOST_BYTES):
            raise InvalidSetting("girth")
        if not is_plans(plans):
            raise InvalidSetting("plans")
        if not is_sequence(common):
            raise InvalidSetting("common")
        require_fates(0, plans[0], life, copies)
        require_fates(1, plans[1], life, copies)
        require_fates(BOTH, common, life, copies)
        self.life = life
        self.copies = copies
        self.girth = girth
        self._plans = [[kept(fate) for fate in plan] for plan in plans]
        self._common = [kept(fate) for fate in common]
        self._used = [0, 0]
        self._counts = [0, 0]
        self._flights = []

    @property
    def flying(self):
        """The number of copies that have not arrived."""
        return len(self._flights)

    def send(self, side, words, now):
        """Send a list of words from a side."""
        require_side(side)
        fate = self._next_fate(side)
        self._counts[side] += 1
        if words[BYTES] > self.girth:
            return
        for delay, place, change in fate:
            self._flights.append((now + delay, 1 - side, bent(words, place, change)))

    def _next_fate(self, side):
        """The fate of the next list of a side, which is used up."""
        total = sum(self._counts)
        if total < len(self._common):
            return self._common[total]
        used = self._used[side]
        if used == len(self._plans[side]):
            return PLAIN
        self._used[side] += 1
        return self._plans[side][used]

    def add_fate(self, side, fate):
        """Append a fate to the plan of a side."""
        require_side(side)
        plan = self._plans[side]
        if not is_fate(fate, self.life, self.copies):
            raise InvalidFate(side, len(plan))
        plan.append(kept(fate))

    def end_common(self):
        """Let the lists that are still to be sent have no common fates."""
        del self._common[sum(self._counts):]

    def arrivals(self, now):
        """Remove the copies that have arrived and return them with the sides that receive them."""
        arrived = [flight for flight in self._flights if flight[0] <= now]
        self._flights = [flight for flight in self._flights if flight[0] > now]
        # Sorting keeps the order of sending among equal times.
        return [(side, words) for _, side, words in sorted(arrived, key=lambda flight: flight[0])]

    def sent(self, side):
        """The number of lists that a side has sent."""
        require_side(side)
        return self._counts[side]
