"""What a watcher knows of one end of a connection, and the rules for what that end sends."""

from lossway.spans import Spans


class Sighting:
    """One end of a connection, by its mark, as its words show it."""

    def __init__(self, ring, segment):
        self.ring = ring
        self.source = segment.source
        self.target = segment.target
        self.first = segment.seq
        self.peer_mark = None
        self.peer_first = None
        self.unit = 0
        self.top = 1
        self.acked = 0
        self.peer_edge = 0
        self.shown = {}
        self.final = None
        self.told_ack = 0
        self.arrived = Spans()
        self.dead = False

    def learn(self, peer_mark, peer_first, unit, window):
        """Know the peer by its opening."""
        self.peer_mark = peer_mark
        self.peer_first = peer_first
        self.unit = unit
        self.peer_edge = 1 + window

    def missing_offset(self):
        """The least offset from 1 on that has not arrived."""
        run = self.arrived.holding(1)
        return 1 if run is None else run[1]

    def own_offset(self, number, near):
        """The offset of the own stream that a number means."""
        return self.ring.unwrap(self.ring.wrap(number - self.first), near)

    def peer_offset(self, number):
        """The offset of the peer's stream that a number means."""
        return self.ring.unwrap(self.ring.wrap(number - self.peer_first), self.missing_offset())

    def acknowledge_opening(self, ack):
        """The peer's opening may acknowledge the own one."""
        if ack == self.ring.wrap(self.first + 1):
            self.acked = max(self.acked, 1)

    def take(self, segment):
        """A segment of the peer has arrived."""
        low = self.peer_offset(segment.seq)
        ack = self.own_offset(segment.ack, self.acked)
        if low < 0 or ack > self.top:
            return
        self.arrived.put(max(low, 1), max(low + segment.extent, 1))
        self.acked = max(self.acked, ack)
        self.peer_edge = max(self.peer_edge, ack + segment.window)

    def enter(self, segment):
        """The end has sent a segment that keeps the rules."""
        low = self.own_offset(segment.seq, self.top)
        end = low + len(segment.data)
        self.told_ack = self.peer_offset(segment.ack)
        for offset, byte in zip(range(low, end), segment.data):
            self.shown[offset] = byte
        if "F" in segment.flags:
            self.final = end
        self.top = max(self.top, low + segment.extent)


def broken_rule(sighting, segment):
    """The first rule for the offsets of a sent segment that it breaks, or None."""
    low = sighting.own_offset(segment.seq, sighting.top)
    end = low + len(segment.data)
    ack = sighting.peer_offset(segment.ack)
    if leaves_gap(sighting, low, segment.extent):
        return "gap"
    if end > low and end > sighting.peer_edge:
        return "edge"
    if end - low > sighting.unit:
        return "piece"
    if changes_bytes(sighting, low, segment.data):
        return "bytes"
    if segment.extent > 0 and passes_finish(sighting, end, "F" in segment.flags):
        return "finish"
    if ack > sighting.missing_offset():
        return "ack"
    if ack < sighting.told_ack:
        return "back"
    return None if tells_arrived(sighting, segment.blocks) else "blocks"


def leaves_gap(sighting, low, extent):
    """True if these offsets neither go on where the stream has come to nor repeat what was sent."""
    if extent == 0:
        return low not in (sighting.top, sighting.acked - 1)
    return low < 1 or low != sighting.top and low + extent > sighting.top


def changes_bytes(sighting, low, data):
    """True if another byte was sent at one of the offsets before."""
    shown = sighting.shown
    return any([shown.get(low + at, byte) != byte for at, byte in enumerate(data)])


def passes_finish(sighting, end, finishes):
    """True if the bytes go on behind the finish, or end at another offset than it."""
    if sighting.final is None:
        return False
    return end > sighting.final or finishes and end != sighting.final


def tells_arrived(sighting, blocks):
    """True if all that the blocks tell as stored has arrived."""
    for first, second in blocks:
        low = sighting.peer_offset(first)
        high = sighting.peer_offset(second)
        run = sighting.arrived.holding(low)
        if low >= high or run is None or high > run[1]:
            return False
    return True
