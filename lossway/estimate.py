"""The round-trip estimate."""

from lossway.checks import is_at_least, is_between
from lossway.errors import InvalidNumber, InvalidSetting

GREATEST_TIME = 100000
MOST_DOUBLINGS = 60


class Estimate:
    """A smoothed round-trip time with its deviation, and the timeout that follows from them."""

    def __init__(self, low, high):
        if not is_between(low, 1, GREATEST_TIME):
            raise InvalidSetting("low")
        if not is_between(high, low, GREATEST_TIME):
            raise InvalidSetting("high")
        self.low = low
        self.high = high
        # Both are kept multiplied, so that whole numbers hold their fractions.
        self.smooth = 0
        self.spread = 0
        self.samples = 0

    @property
    def timeout(self):
        """The time after which an answer counts as missing."""
        if self.samples == 0:
            return min(self.high, 4 * self.low)
        return min(self.high, max(self.low, self.smooth // 8 + max(1, self.spread)))

    def sample(self, ticks):
        """Take one measured time."""
        if not is_at_least(ticks, 0):
            raise InvalidNumber(ticks)
        if self.samples == 0:
            self.smooth = 8 * ticks
            self.spread = 2 * ticks
        else:
            error = ticks - self.smooth // 8
            self.smooth += error
            self.spread += abs(error) - self.spread // 4
        self.samples += 1

    def backed(self, count):
        """The timeout, doubled count times."""
        if not is_between(count, 0, MOST_DOUBLINGS):
            raise InvalidNumber(count)
        return min(self.high, self.timeout << count)

    def copied(self):
        """Another estimate in the same state."""
        made = Estimate(self.low, self.high)
        made.smooth = self.smooth
        made.spread = self.spread
        made.samples = self.samples
        return made
