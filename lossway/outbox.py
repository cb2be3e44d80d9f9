"""The sending buffer."""

from lossway.checks import is_between, require_data, require_limit
from lossway.errors import InvalidNumber, NotAllowed


class Outbox:
    """The bytes that were written and are not released, numbered from offset 1 on."""

    def __init__(self, limit):
        self.limit = limit
        self.base = 1
        self.end = 1
        self.closed = False
        self.urgent_end = 0
        self._kept = []

    @property
    def limit(self):
        """The number of bytes that the buffer may keep."""
        return self._limit

    @limit.setter
    def limit(self, value):
        require_limit(value)
        self._limit = value

    @property
    def free(self):
        """The number of bytes that can be appended now."""
        # A limit may have been lowered below what is kept.
        return max(0, self._limit - (self.end - self.base))

    @property
    def bound(self):
        """The offset behind the last one that is to be sent, the finish included."""
        return self.end + 1 if self.closed else self.end

    def resize(self, limit):
        """Give the buffer another limit."""
        self.limit = limit

    def put(self, data):
        """Append as many bytes as are free and return their number."""
        if self.closed:
            raise NotAllowed("closed")
        require_data(data)
        count = min(self.free, len(data))
        self._kept.extend(data[:count])
        self.end += count
        return count

    def urge(self, data):
        """Append bytes as put does, and mark them as urgent."""
        count = self.put(data)
        if count > 0:
            self.urgent_end = self.end
        return count

    def shut(self):
        """Close the buffer."""
        self.closed = True

    def cut(self, low, high):
        """The bytes of the offsets from low to high - 1."""
        if not is_between(low, self.base, self.end):
            raise InvalidNumber(low)
        if not is_between(high, low, self.end):
            raise InvalidNumber(high)
        return tuple(self._kept[low - self.base:high - self.base])

    def release(self, offset):
        """Forget the bytes below the offset and return their number."""
        if not is_between(offset, self.base, self.end):
            raise InvalidNumber(offset)
        count = offset - self.base
        del self._kept[:count]
        self.base = offset
        return count

    def copied(self):
        """Another buffer in the same state."""
        made = Outbox(self.limit)
        made.base = self.base
        made.end = self.end
        made.closed = self.closed
        made.urgent_end = self.urgent_end
        made._kept = list(self._kept)
        return made
