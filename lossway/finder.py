"""The search for the greatest piece that a path carries."""

from lossway.checks import is_at_least, is_between
from lossway.errors import InvalidNumber, InvalidSetting
from lossway.segments import MOST_BYTES

# One lost trial may be chance; so many are taken as the path's word.
MOST_STRIKES = 2


def require_count(count):
    """Raise InvalidNumber unless this is a number of bytes."""
    if not is_at_least(count, 0):
        raise InvalidNumber(count)


class Finder:
    """The greatest piece that is known to pass, and the least bound above it."""

    def __init__(self, low, high):
        if not is_between(low, 1, MOST_BYTES):
            raise InvalidSetting("low")
        if not is_between(high, low, MOST_BYTES):
            raise InvalidSetting("high")
        self.size = low
        self.ceiling = high
        self.strikes = 0

    def trial(self):
        """The piece to try next, or 0 if the search has ended."""
        return (self.size + self.ceiling + 1) // 2 if self.size < self.ceiling else 0

    def passed(self, count):
        """A piece of count bytes arrived."""
        require_count(count)
        if count > self.size:
            self.size = min(count, self.ceiling)
            self.strikes = 0

    def failed(self, count):
        """A trial of count bytes was lost."""
        require_count(count)
        if count == 0 or count != self.trial():
            return
        self.strikes += 1
        if self.strikes == MOST_STRIKES:
            self.ceiling = count - 1
            self.strikes = 0

    def copied(self):
        """Another search in the same state."""
        made = Finder(self.size, self.ceiling)
        made.strikes = self.strikes
        return made
