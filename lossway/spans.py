"""Sets of offsets, kept as runs.

The functions here take and return lists of runs (low, high) that are ascending and do not touch.
"""

from lossway.checks import is_at_least, is_integer, is_sequence
from lossway.errors import InvalidNumber


def is_run(pair):
    """True for a pair of integers with 0 <= low <= high."""
    return is_sequence(pair) and len(pair) == 2 and is_at_least(pair[0], 0) and is_at_least(pair[1], pair[0])


def joined(pairs):
    """The runs of the offsets of pairs that may overlap, be empty and stand in any order."""
    runs = []
    for low, high in sorted([tuple(pair) for pair in pairs]):
        if runs and low <= runs[-1][1]:
            runs[-1] = (runs[-1][0], max(runs[-1][1], high))
        elif low < high:
            runs.append((low, high))
    return runs


def missing(runs, low, high):
    """The runs of the offsets from low to high - 1 that are in none of the runs."""
    found = []
    at = low
    for start, end in runs:
        if at < min(start, high):
            found.append((at, min(start, high)))
        at = max(at, end)
    if at < high:
        found.append((at, high))
    return found


def common(first, second):
    """The runs of the offsets that are in both."""
    found = []
    one = two = 0
    while one < len(first) and two < len(second):
        low = max(first[one][0], second[two][0])
        high = min(first[one][1], second[two][1])
        if low < high:
            found.append((low, high))
        if first[one][1] < second[two][1]:
            one += 1
        else:
            two += 1
    return found


def without(first, second):
    """The runs of the offsets that are in the first, but not in the second."""
    end = first[-1][1] if first else 0
    return common(first, missing(second, 0, end))


class Spans:
    """A set of offsets."""

    def __init__(self, *pairs):
        for pair in pairs:
            if not is_run(pair):
                raise InvalidNumber(pair)
        self._runs = joined(pairs)

    def __or__(self, other):
        if not isinstance(other, Spans):
            return NotImplemented
        runs = self._runs + other._runs
        return Spans(*runs)

    def __and__(self, other):
        if not isinstance(other, Spans):
            return NotImplemented
        runs = common(self._runs, other._runs)
        return Spans(*runs)

    def __sub__(self, other):
        if not isinstance(other, Spans):
            return NotImplemented
        runs = without(self._runs, other._runs)
        return Spans(*runs)

    def __contains__(self, offset):
        return self.holding(offset) is not None

    def __eq__(self, other):
        return isinstance(other, Spans) and self._runs == other._runs

    def __len__(self):
        return len(self._runs)

    def rows(self):
        """The runs."""
        return list(self._runs)

    def copied(self):
        """Another set of the same offsets."""
        made = Spans()
        made._runs = list(self._runs)
        return made

    def total(self):
        """The number of offsets."""
        return sum([high - low for low, high in self._runs])

    def put(self, low, high):
        """Add the offsets from low to high - 1."""
        if not is_run((low, high)):
            raise InvalidNumber((low, high))
        self._runs = joined([*self._runs, (low, high)])

    def drop(self, low, high):
        """Remove the offsets from low to high - 1."""
        if not is_run((low, high)):
            raise InvalidNumber((low, high))
        self._runs = without(self._runs, joined([(low, high)]))

    def holding(self, offset):
        """The run that has the offset, or None."""
        if not is_integer(offset):
            return None
        for low, high in self._runs:
            if low <= offset < high:
                return (low, high)
        return None

    def gaps(self, low, high):
        """Yield the runs of the offsets from low to high - 1 that are missing."""
        for run in missing(self._runs, low, high):
            yield run

    def highest(self, count):
        """The greatest offset with at least count offsets of the set from it on, or None."""
        if not is_at_least(count, 1):
            raise InvalidNumber(count)
        left = count
        for low, high in reversed(self._runs):
            if high - low >= left:
                return high - left
            left -= high - low
        return None
