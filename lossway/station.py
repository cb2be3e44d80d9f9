"""Stations: ports, listeners, cookies, resets and crashes."""

from lossway.checks import is_between, is_integer, is_port
from lossway.connection import Connection
from lossway.cookies import cookie_segment, first_of, is_own_cookie, mark_of
from lossway.errors import (
    InvalidNumber, InvalidSetting, InvalidWords, NoConnection, NoListener, NotAllowed, PortTaken, StationDown, TooMany,
)
from lossway.listeners import Listener
from lossway.ring import Ring
from lossway.segments import Segment
from lossway.settings import Settings
from lossway.standings import end_standing, listener_standing, station_time
from lossway.words import pack, unpack

FIRST_FREE_PORT = 40000
MOST_BACKLOG = 1000
MOST_MARKS = 65535
MOST_ERAS = 65535


class Station:
    """Many connections with one peer station."""

    def __init__(self, settings, *, era=1):
        if not isinstance(settings, Settings):
            raise InvalidSetting("settings")
        if not is_between(era, 1, MOST_ERAS):
            raise InvalidSetting("era")
        self.settings = settings
        self.era = era
        self.now = 0
        self.used = 0
        self.down = False
        self._next_handle = 1
        self._lose_all()

    def _lose_all(self):
        # Handles ascend, so this dict has its connections in the order of their handles.
        self._connections = {}
        self._handed = {}
        self._listeners = {}
        self._marks_made = {}
        self._outgoing = []

    def listen(self, port, *, backlog=2):
        """Make a listener."""
        self._require_up()
        if not is_port(port):
            raise InvalidNumber(port)
        if not is_between(backlog, 0, MOST_BACKLOG):
            raise InvalidSetting("backlog")
        if port in self._listeners:
            raise PortTaken(port)
        self._listeners[port] = Listener(backlog)

    def unlisten(self, port):
        """Remove a listener and abort what waits at it."""
        listener = self._listener(port)
        del self._listeners[port]
        for handle in listener.waiting:
            self._connections[handle].abort(self.now)
        self._end_method()

    def connect(self, target, *, source=None, first=None):
        """Open a connection and return its handle."""
        self._require_up()
        if not is_port(target):
            raise InvalidNumber(target)
        if source is not None and not is_port(source):
            raise InvalidNumber(source)
        if first is not None and first not in Ring(self.settings.size):
            raise InvalidNumber(first)
        if source is None:
            source = self._free_port(target)
        elif self._busy(source, target) is not None:
            raise PortTaken(source)
        if self.used == MOST_MARKS:
            raise TooMany(MOST_MARKS)
        mark = self._take_mark()
        if first is None:
            first = first_of(self.settings, self.now, mark)
        made = Connection.opening(self.settings, source, target, mark=mark, first=first, now=self.now)
        handle = self._keep(made)
        self._handed[handle] = True
        self._end_method()
        return handle

    def accept(self, port):
        """Hand over the connection of a listener that became ready first; None if none is."""
        listener = self._listener(port)
        if len(listener.readied) == 0:
            return None
        handle = listener.readied[0]
        listener.drop(handle)
        self._handed[handle] = True
        return handle

    def write(self, handle, data):
        """Write bytes and return how many of them were taken."""
        count = self.connection(handle).write(data, self.now)
        self._end_method()
        return count

    def urge(self, handle, data):
        """Write urgent bytes and return how many of them were taken."""
        count = self.connection(handle).urge(data, self.now)
        self._end_method()
        return count

    def read(self, handle, count):
        """Read at most count bytes."""
        data = self.connection(handle).read(count, self.now)
        self._end_method()
        return data

    def close(self, handle):
        """Let the own stream of a connection end."""
        self.connection(handle).close(self.now)
        self._end_method()

    def abort(self, handle):
        """End a connection at once."""
        self.connection(handle).abort(self.now)
        self._end_method()

    def resize(self, handle, limit):
        """Give the inbox of a connection another limit."""
        self.connection(handle).resize(limit, self.now)
        self._end_method()

    def forget(self, handle):
        """Forget a connection that is gone."""
        state = self.connection(handle).state
        if state != "gone":
            raise NotAllowed(state)
        del self._connections[handle]
        del self._handed[handle]

    def connection(self, handle):
        """The connection of a handle, to look at."""
        self._require_up()
        if not is_integer(handle) or handle not in self._handed:
            raise NoConnection(handle)
        return self._connections[handle]

    def handles(self):
        """The handles of the connections that the user has."""
        self._require_up()
        return sorted(list(self._handed))

    def status(self, handle):
        """What a user wants to know of a connection."""
        connection = self.connection(handle)
        control = connection.control
        return {
            "state": connection.state,
            "reason": connection.reason,
            "ready": connection.inbox.ready,
            "urgent": connection.inbox.urgent_count,
            "unsent": max(0, connection.outbox.end - connection.top),
            "confirmed": connection.confirmed,
            "window": 0 if control is None else control.window,
        }

    def deliver(self, words):
        """Take a list of words from the net and return what was done with it."""
        if self.down:
            return "ignored"
        try:
            segment = unpack(words)
        except InvalidWords:
            return "bent"
        result = self._receive(segment)
        self._end_method()
        return result

    def advance(self):
        """Let one tick pass."""
        self.now += 1
        if not self.down:
            for connection in list(self._connections.values()):
                connection.tick(self.now)
            self._end_method()

    def crash(self):
        """Lose everything but the era, the time, the next handle and the settings."""
        self._require_up()
        self._lose_all()
        self.down = True

    def start(self):
        """Begin a new era after a crash."""
        if not self.down:
            raise NotAllowed("up")
        if self.era == MOST_ERAS:
            raise TooMany(MOST_ERAS)
        self.era += 1
        self.used = 0
        self.down = False

    def drain(self):
        """The packed segments that were sent since the last call."""
        sent = self._outgoing
        self._outgoing = []
        return sent

    def copied(self):
        """Another station in the same state."""
        made = Station(self.settings, era=self.era)
        made.now = self.now
        made.used = self.used
        made.down = self.down
        made._next_handle = self._next_handle
        made._connections = {handle: connection.copied() for handle, connection in self._connections.items()}
        made._handed = dict(self._handed)
        made._listeners = {port: listener.copied() for port, listener in self._listeners.items()}
        made._marks_made = dict(self._marks_made)
        made._outgoing = [list(words) for words in self._outgoing]
        return made

    def standing(self):
        """All that decides what the station will do, as one tuple."""
        now = self.now
        ends = [
            (handle, handle in self._handed, *end_standing(connection, now))
            for handle, connection in self._connections.items()
        ]
        listeners = [listener_standing(port, self._listeners[port]) for port in sorted(list(self._listeners))]
        return (
            station_time(self.settings, now), self.era, self.used, self.down, self._next_handle,
            tuple(ends), tuple(listeners), tuple(sorted(list(self._marks_made))),
        )

    def is_waiting(self):
        """True if a connection has an alarm other than the one that asks for a sign of life."""
        alarms = [connection.alarms for connection in list(self._connections.values())]
        return any([len(times) > int("alive" in times) for times in alarms])

    def _require_up(self):
        if self.down:
            raise StationDown()

    def _listener(self, port):
        self._require_up()
        if not is_port(port) or port not in self._listeners:
            raise NoListener(port)
        return self._listeners[port]

    def _busy(self, source, target):
        """The least handle of a connection that keeps this pair of ports busy, or None."""
        for handle, connection in self._connections.items():
            is_alive = connection.state in ("opening", "answering", "open")
            if is_alive and connection.source == source and connection.target == target:
                return handle
        return None

    def _free_port(self, target):
        port = FIRST_FREE_PORT
        while port in self._listeners or self._busy(port, target) is not None:
            port += 1
        return port

    def _take_mark(self):
        self.used += 1
        return mark_of(self.era, self.used)

    def _keep(self, connection):
        """Keep a new connection and return its handle."""
        handle = self._next_handle
        self._next_handle += 1
        self._connections[handle] = connection
        self._marks_made[connection.mark] = True
        return handle

    def _end_method(self):
        """Take what the connections sent, and forget those that ended before a user had them."""
        for handle, connection in list(self._connections.items()):
            self._outgoing.extend([pack(segment) for segment in connection.drain()])
            if connection.state == "gone" and handle not in self._handed:
                del self._connections[handle]
                for listener in list(self._listeners.values()):
                    listener.drop(handle)

    def _receive(self, segment):
        """Do what a segment asks for and return a word for it."""
        handle = self._accepting(segment)
        if handle is not None:
            self._pass_on(handle, segment)
            return "taken"
        if "R" in segment.flags:
            return "ignored"
        if segment.flags == "S" and segment.tag == 0:
            return self._receive_opening(segment)
        if "S" not in segment.flags and self._has_valid_cookie(segment):
            return self._resume(segment)
        return self._refuse(segment)

    def _accepting(self, segment):
        """The least handle of a connection to which a segment belongs, or None."""
        for handle, connection in self._connections.items():
            if connection.accepts(segment):
                return handle
        return None

    def _pass_on(self, handle, segment):
        """Let a connection take a segment, by which it may become ready."""
        connection = self._connections[handle]
        before = connection.state
        connection.deliver(segment, self.now)
        if before == "answering" and connection.state not in ("answering", "gone"):
            listener = self._listeners.get(connection.source)
            if listener is not None and handle in listener.waiting:
                listener.readied.append(handle)

    def _receive_opening(self, segment):
        """Answer an opening that belongs to no connection."""
        busy = self._busy(segment.target, segment.source)
        if busy is not None:
            self._connections[busy].challenge(self.now)
            return "challenged"
        listener = self._listeners.get(segment.target)
        if listener is None:
            return self._refuse(segment)
        if self.used == MOST_MARKS:
            return "ignored"
        mark = self._take_mark()
        first = first_of(self.settings, self.now, mark)
        if len(listener.waiting) < listener.backlog:
            made = Connection.answering(self.settings, segment, mark=mark, first=first, now=self.now)
            listener.waiting.append(self._keep(made))
            return "queued"
        self._outgoing.append(pack(cookie_segment(self.settings, segment, mark, first, self.now)))
        return "cookie"

    def _has_valid_cookie(self, segment):
        """True if a connection may be made from the cookie of a segment."""
        is_own = is_own_cookie(segment, self.settings, self.era, self.used, self.now)
        return is_own and segment.target in self._listeners and segment.tag not in self._marks_made

    def _resume(self, segment):
        """Make the connection whose cookie a segment brings back, if the listener has room for it."""
        listener = self._listeners[segment.target]
        if len(listener.readied) >= max(1, listener.backlog):
            return "ignored"
        handle = self._keep(Connection.resumed(self.settings, segment, now=self.now))
        listener.waiting.append(handle)
        listener.readied.append(handle)
        self._pass_on(handle, segment)
        return "resumed"

    def _refuse(self, segment):
        """Answer a segment that belongs nowhere by a reset."""
        self._outgoing.append(pack(Segment(
            segment.target, segment.source, tag=segment.mark, mark=segment.tag, flags="R", seq=segment.ack,
        )))
        return "refused"
