"""The comparison of two stations by what they send."""

from lossway.checks import is_at_least, is_between, is_sequence
from lossway.errors import InvalidNumber, InvalidTrace, InvalidWords, TooMany
from lossway.events import frozen, is_event, outcome
from lossway.station import Station
from lossway.words import unpack

MOST_RUNS = 20000
MOST_STANDINGS = 500


class Pair:
    """Two stations that have done the same run of events."""

    def __init__(self, first, second, path):
        self.first = first
        self.second = second
        self.path = path
        self.parted = False

    def after(self, index, event):
        """Another pair that has done one more event, which may have parted it."""
        made = Pair(self.first.copied(), self.second.copied(), (*self.path, index))
        made.parted = outcome(made.first, event) != outcome(made.second, event)
        return made

    def standing(self):
        """All that decides what the two stations will do."""
        return (self.first.standing(), self.second.standing())


def new_pair(first, second):
    """Two new stations with these settings."""
    return Pair(Station(first), Station(second), ())


def is_item(value):
    """True for an event that may stand in a menu."""
    return is_event(value) and value[0] != "out"


def has_cookie(event):
    """True for an arrival of words that hold a cookie."""
    if event[0] != "in":
        return False
    try:
        segment = unpack(event[1])
    except InvalidWords:
        return False
    return len(segment.cookie) > 0


def events_of(menu, bars_cookies):
    """The events of a menu; raises InvalidTrace for the first item that may not stand there."""
    if not is_sequence(menu):
        raise InvalidTrace(0)
    for place, item in enumerate(menu):
        if not is_item(item) or bars_cookies and has_cookie(item):
            raise InvalidTrace(place)
    return frozen(menu)


def require_few_runs(many, depth):
    """Raise TooMany if so many events make too many runs of this length."""
    runs = 1
    # With at most one event there is at most one run, whatever the depth.
    for _ in range(depth if many > 1 else 0):
        runs *= many
        if runs > MOST_RUNS:
            raise TooMany(MOST_RUNS)


def is_new(met, standing):
    """True if a standing was not met before; now it is."""
    if standing in met:
        return False
    met[standing] = True
    return True


def parting(first, second, menu, depth):
    """The least of the shortest runs that part two stations with these settings, or None."""
    events = events_of(menu, False)
    if not is_at_least(depth, 0):
        raise InvalidNumber(depth)
    require_few_runs(len(events), depth)
    pairs = [new_pair(first, second)]
    met = {}
    for left in reversed(range(depth)):
        later = []
        for pair in pairs:
            for index, event in enumerate(events):
                made = pair.after(index, event)
                if made.parted:
                    return made.path
                # Cookies are valid for a time, so here the time itself counts, too.
                if left > 0 and is_new(met, (made.first.now, *made.standing())):
                    later.append(made)
        pairs = later
    return None


def is_parting(first, second, menu, run):
    """True if the run parts two stations with these settings with its last event, and not before."""
    events = events_of(menu, False)
    if not is_sequence(run) or not all([is_between(index, 0, len(events) - 1) for index in run]):
        raise InvalidNumber(run)
    one = Station(first)
    other = Station(second)
    for place, index in enumerate(run):
        if outcome(one, events[index]) != outcome(other, events[index]):
            return place == len(run) - 1
    return False


def alike(first, second, menu, most):
    """Whether any run, however long, parts two stations, as far as a search of so many standings tells."""
    events = events_of(menu, True)
    if not is_between(most, 1, MOST_STANDINGS):
        raise InvalidNumber(most)
    pairs = [new_pair(first, second)]
    met = {pairs[0].standing(): True}
    visited = 0
    while visited < len(pairs):
        if visited == most:
            return ("open",)
        pair = pairs[visited]
        visited += 1
        for index, event in enumerate(events):
            made = pair.after(index, event)
            if made.parted:
                return ("apart", made.path)
            if is_new(met, made.standing()):
                pairs.append(made)
    return ("alike",)
