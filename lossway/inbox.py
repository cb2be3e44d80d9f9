"""The receiving buffer."""

from lossway.checks import is_at_least, require_data, require_limit
from lossway.errors import InvalidNumber
from lossway.spans import Spans

MOST_TOLD = 3


class Inbox:
    """Bytes that arrive in any order by their offsets, from offset 1 on, and are read in order."""

    def __init__(self, limit):
        self.limit = limit
        self.next_offset = 1
        self.read_offset = 1
        self.final = None
        self.urgent_end = 0
        self._stored = {}
        # The offsets of the stored bytes behind the first gap.
        self._ahead = Spans()
        self._latest = 0

    @property
    def limit(self):
        """The number of bytes from the next one to read on that the buffer may store."""
        return self._limit

    @limit.setter
    def limit(self, value):
        require_limit(value)
        self._limit = value

    @property
    def edge(self):
        """The offset from which on no byte is stored."""
        return max(self.next_offset, self.read_offset + self._limit)

    @property
    def room(self):
        """The number of offsets below the edge whose bytes may still arrive in order."""
        return self.edge - self.next_offset

    @property
    def ready(self):
        """The number of bytes that can be read."""
        return self.next_offset - self.read_offset

    @property
    def ended(self):
        """True if all bytes of the stream have arrived, and its end is known."""
        return self.final is not None and self.final == self.next_offset

    @property
    def expected(self):
        """The least offset that has not arrived, the finish included."""
        return self.next_offset + 1 if self.ended else self.next_offset

    @property
    def urgent_count(self):
        """The number of offsets from the next byte to read up to the urgent end."""
        return max(0, self.urgent_end - self.read_offset)

    def resize(self, limit):
        """Give the buffer another limit."""
        self.limit = limit

    def take(self, offset, data):
        """Store the bytes from the offset on that are wanted and return their number."""
        if not is_at_least(offset, 0):
            raise InvalidNumber(offset)
        require_data(data)
        least = max(offset, self.next_offset)
        end = min(offset + len(data), self._stop())
        wanted = list(self._ahead.gaps(least, end))
        for low, high in wanted:
            for at in range(low, high):
                self._stored[at] = data[at - offset]
            self._ahead.put(low, high)
        if wanted:
            self._latest = wanted[0][0]
        self._move_on()
        return sum([high - low for low, high in wanted])

    def _stop(self):
        """The offset from which on bytes are skipped."""
        return self.edge if self.final is None else min(self.edge, self.final)

    def _move_on(self):
        """Move next_offset over the bytes that follow without a gap."""
        run = self._ahead.holding(self.next_offset)
        if run is not None:
            self.next_offset = run[1]
            self._ahead.drop(run[0], run[1])

    def finish(self, offset):
        """Let the stream end before the offset, if its end is not known yet."""
        if self.final is not None:
            return
        highest = self._ahead.highest(1)
        least = self.next_offset if highest is None else highest + 1
        if not is_at_least(offset, least):
            raise InvalidNumber(offset)
        self.final = offset

    def read(self, count):
        """Remove and return the next bytes, at most count."""
        if not is_at_least(count, 0):
            raise InvalidNumber(count)
        low = self.read_offset
        self.read_offset += min(count, self.ready)
        found = []
        for at in range(low, self.read_offset):
            found.append(self._stored.pop(at))
        return tuple(found)

    def told_runs(self):
        """The runs of stored offsets behind the first gap: that of the latest bytes, then the others."""
        rows = self._ahead.rows()
        latest = self._ahead.holding(self._latest)
        if latest is not None:
            rows = [latest, *[run for run in rows if run != latest]]
        return rows[:MOST_TOLD]

    def mark_urgent(self, offset):
        """Let the urgent bytes reach up to the offset at least."""
        self.urgent_end = max(self.urgent_end, offset)

    def stored(self):
        """The bytes that were not read, as ascending pairs of an offset and a byte."""
        return sorted(list(self._stored.items()))

    def copied(self):
        """Another buffer in the same state."""
        made = Inbox(self.limit)
        made.next_offset = self.next_offset
        made.read_offset = self.read_offset
        made.final = self.final
        made.urgent_end = self.urgent_end
        made._stored = dict(self._stored)
        made._ahead = self._ahead.copied()
        made._latest = self._latest
        return made
