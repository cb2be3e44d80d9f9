"""Rings of wrapped numbers."""

from lossway.checks import is_between, is_integer
from lossway.errors import InvalidNumber, InvalidSetting


class Ring:
    """The numbers from 0 to size - 1, behind which 0 follows again."""

    LEAST = 64
    GREATEST = 4294967296

    def __init__(self, size):
        if not is_size(size):
            raise InvalidSetting("size")
        self.size = size

    @classmethod
    def of_bits(cls, bits):
        """The ring of size 2 to the power bits."""
        if not is_between(bits, 6, 32):
            raise InvalidSetting("bits")
        return cls(1 << bits)

    def __contains__(self, number):
        return is_between(number, 0, self.size - 1)

    def __eq__(self, other):
        return isinstance(other, Ring) and self.size == other.size

    def wrap(self, offset):
        """The number of the ring that equals the offset modulo the size."""
        if not is_integer(offset):
            raise InvalidNumber(offset)
        return offset % self.size

    def unwrap(self, number, near):
        """The offset that wraps to the number and lies at most half a ring from near."""
        self._require(number)
        if not is_integer(near):
            raise InvalidNumber(near)
        least = near - self.size // 2
        return least + (number - least) % self.size

    def gap(self, low, high):
        """The number of steps from low up to high."""
        self._require(low)
        self._require(high)
        return (high - low) % self.size

    def before(self, low, high):
        """True if high is ahead of low by less than half a ring."""
        return 1 <= self.gap(low, high) < self.size // 2

    def within(self, low, number, high):
        """True if the way up from low meets the number before high."""
        # The first gap looks at low and the number, so that the first wrong argument decides.
        return self.gap(low, number) < self.gap(low, high)

    def _require(self, number):
        if number not in self:
            raise InvalidNumber(number)


def is_size(value):
    """True for the size of a ring."""
    # A power of two has a single bit, which the number below it does not have.
    return is_between(value, Ring.LEAST, Ring.GREATEST) and value & (value - 1) == 0
