"""Two stations and a net between them, led tick by tick, for the tests of stations."""

from lossway.net import Net
from lossway.station import Station
from lossway.words import unpack


class Pair:
    """Two stations that share a clock; what they send is looked at on its way."""

    def __init__(self, first, second=None, **choices):
        self.stations = (Station(first), Station(first if second is None else second))
        self.net = Net(life=first.life, **choices)
        self.now = 0
        self.sent = ([], [])
        self.results = ([], [])
        # The lists as they are given to the net, for comparing whole runs.
        self.lists = ([], [])

    def carry(self, side):
        segments = []
        for words in self.stations[side].drain():
            segments.append(unpack(words))
            self.lists[side].append((self.now, words))
            self.net.send(side, words, self.now)
        self.sent[side].extend(segments)
        self.check_flights(side, segments)

    def check_flights(self, side, segments):
        """What is in flight after a method that sent offsets fits the control's window, or is the last segment."""
        last = {}
        for segment in segments:
            if segment.extent > 0 and "S" not in segment.flags:
                last[segment.mark] = segment.extent
        for connection in self.stations[side]._connections.values():
            if connection.mark in last:
                fits = connection.flight <= connection.control.window
                assert fits or connection.flight == last[connection.mark], (side, connection.mark)

    def call(self, side, name, *values, **options):
        result = getattr(self.stations[side], name)(*values, **options)
        self.carry(side)
        return result

    def advance(self, count=1):
        for _ in range(count):
            self.now += 1
            for side in (0, 1):
                self.stations[side].advance()
                self.carry(side)
            for side, words in self.net.arrivals(self.now):
                self.results[side].append(self.stations[side].deliver(words))
                self.carry(side)

    def open(self, port=80, ticks=3):
        """Open a connection from side 0 to side 1 and return both handles."""
        self.call(1, "listen", port)
        handle = self.call(0, "connect", port)
        self.advance(ticks)
        return handle, self.call(1, "accept", port)

    def connection(self, side, handle):
        return self.stations[side].connection(handle)
