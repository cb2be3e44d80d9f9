"""A world: two stations that share a clock, and the net between them."""

from lossway.calls import call_station, is_call
from lossway.checks import is_at_least
from lossway.errors import InvalidDeed, InvalidNumber, InvalidSetting
from lossway.events import frozen, ordered_options
from lossway.net import Net, require_side
from lossway.station import Station

TICK = ("tick",)


def require_count(count):
    """Raise InvalidNumber unless so many ticks may pass."""
    if not is_at_least(count, 0):
        raise InvalidNumber(count)


class Account:
    """What a user wrote and read on a connection, which stays when the station forgets it."""

    def __init__(self, side, link):
        self.side = side
        self.link = link
        self.written = []
        self.received = []

    def entry(self):
        """The row of the ledger."""
        return (self.side, self.link.mark, self.link.peer_mark, tuple(self.written), tuple(self.received))


class World:
    """Two stations and a net, of which only calls and ticks let something happen."""

    def __init__(self, first, second, *, copies=2, girth=1400, plans=((), ()), common=()):
        self.stations = (Station(first), Station(second))
        if first.size != second.size:
            raise InvalidSetting("size")
        if first.life != second.life:
            raise InvalidSetting("life")
        self.net = Net(life=first.life, copies=copies, girth=girth, plans=plans, common=common)
        self.now = 0
        self._traces = ([], [])
        self._accounts = []
        # For each side, by the handle, which a station never gives twice.
        self._by_handle = ({}, {})

    @property
    def quiet(self):
        """True if nothing is on its way and nothing is waited for but a sign of life."""
        first, second = self.stations
        return self.net.flying == 0 and not first.is_waiting() and not second.is_waiting()

    def call(self, side, name, *values, **options):
        """Make a call at a station and return its result."""
        return self.make_call(side, name, values, options)

    def make_call(self, side, name, values, options):
        """Make a call whose values stand in a sequence and whose options stand in a dict."""
        require_side(side)
        if not is_call(name, values, list(options)):
            raise InvalidDeed(name)
        result = call_station(self.stations[side], name, values, options)
        self._traces[side].append(("call", name, frozen(values), ordered_options(list(options.items()))))
        self._enter(side, name, values, result)
        self._carry(side)
        return result

    def advance(self, count=1):
        """Let so many ticks pass."""
        require_count(count)
        for _ in range(count):
            self._pass_tick()

    def run(self, limit):
        """Let ticks pass until the world is quiet, at most so many, and return their number."""
        require_count(limit)
        ticks = 0
        while ticks < limit and not self.quiet:
            self._pass_tick()
            ticks += 1
        return ticks

    def trace(self, side):
        """What happened at a station."""
        require_side(side)
        return list(self._traces[side])

    def ledger(self):
        """What was written and read on each connection that a user was handed."""
        return [account.entry() for account in self._accounts]

    def _pass_tick(self):
        self.now += 1
        for side, station in enumerate(self.stations):
            station.advance()
            self._traces[side].append(TICK)
            self._carry(side)
        arrived = self.net.arrivals(self.now)
        for side, words in arrived:
            self.stations[side].deliver(words)
            self._traces[side].append(("in", tuple(words)))
            self._carry(side)

    def _carry(self, side):
        """Give what a station has sent to the net."""
        for words in self.stations[side].drain():
            self._traces[side].append(("out", tuple(words)))
            self.net.send(side, words, self.now)

    def _enter(self, side, name, values, result):
        """Enter in the ledger what a call did."""
        accounts = self._by_handle[side]
        if name in ("connect", "accept") and result is not None:
            accounts[result] = Account(side, self.stations[side].connection(result))
            self._accounts.append(accounts[result])
        elif name in ("write", "urge", "read") and values[0] in accounts:
            account = accounts[values[0]]
            if name == "read":
                account.received.extend(result)
            else:
                account.written.extend(values[1][:result])
