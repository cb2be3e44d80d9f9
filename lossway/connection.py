"""One end of one connection."""

from lossway.alarms import Alarms
from lossway.checks import is_between
from lossway.curves import copied_control
from lossway.errors import Broken, InvalidSetting
from lossway.estimate import Estimate
from lossway.inbox import Inbox
from lossway.outbox import Outbox
from lossway.receiving import know_opener, know_peer, receive
from lossway.ring import Ring
from lossway.sending import is_window_news, own_number, send_opening, send_reset
from lossway.settling import end_connection, period_of, roll, settle
from lossway.spans import Spans
from lossway.waking import wake


class Connection:
    """The state machine of one end; opening, answering and resumed make one."""

    def __init__(self, settings, source, target, mark, first, now):
        self.settings = settings
        self.source = source
        self.target = target
        self.mark = mark
        self.first = first
        self.ring = Ring(settings.size)
        self.state = "opening"
        self.reason = ""
        self.cookie = ()
        self.outgoing = []
        self.outbox = Outbox(settings.outbox)
        self.inbox = Inbox(settings.inbox)
        self.estimate = Estimate(settings.low, settings.high)
        self.alarms = Alarms()
        self._begin_stream(now)
        self._begin_peer()

    def _begin_stream(self, now):
        """Set what is known of the own stream."""
        self.una = self.top = 0
        self.sacked = Spans()
        self.lost = Spans()
        self.resent = Spans()
        self.recover = None
        self.attempts = self.pokes = self.unheard = self.repeats = 0
        self.timed_end = self.timed_at = None
        self.trial_low = self.trial_high = None
        self.period = period_of(self.settings, now)
        self.older = self.newer = 0
        self.rests = False

    def _begin_peer(self):
        """Set what is known of the peer and was told to it."""
        self.peer_mark = self.peer_first = None
        self.control = self.finder = None
        self.peer_edge = self.greatest = self.update_seq = 0
        self.update_ack = 1
        self.told_edge = self.inbox.edge
        self.owed = 0

    @classmethod
    def opening(cls, settings, source, target, *, mark, first, now):
        """An end that opens a connection by itself."""
        made = cls(settings, source, target, mark, first, now)
        made._send_first(now)
        return made

    @classmethod
    def answering(cls, settings, segment, *, mark, first, now):
        """An end that answers an opening."""
        made = cls(settings, segment.target, segment.source, mark, first, now)
        know_opener(made, segment)
        made.state = "answering"
        made._send_first(now)
        return made

    @classmethod
    def resumed(cls, settings, segment, *, now):
        """An end whose peer brings back a cookie, in which all is told that was not kept."""
        mark, first, _, piece, peer_mark, peer_first = segment.cookie
        made = cls(settings, segment.target, segment.source, mark, first, now)
        know_peer(made, peer_mark, peer_first, piece, segment.window)
        made.state = "open"
        made.una = made.top = 1
        return made

    def _send_first(self, now):
        """Send the opening of a new end."""
        send_opening(self)
        self.top = self.timed_end = 1
        self.timed_at = now
        self.alarms.arm("resend", now + self.estimate.backed(0))

    def copied(self):
        """Another end in the same state."""
        made = Connection(self.settings, self.source, self.target, self.mark, self.first, 0)
        made.state = self.state
        made.reason = self.reason
        made.cookie = self.cookie
        made.outgoing = list(self.outgoing)
        made.outbox = self.outbox.copied()
        made.inbox = self.inbox.copied()
        made.estimate = self.estimate.copied()
        made.alarms = self.alarms.copied()
        self._copy_stream(made)
        self._copy_peer(made)
        return made

    def _copy_stream(self, made):
        """Tell another end what is known of the own stream."""
        made.una = self.una
        made.top = self.top
        made.sacked = self.sacked.copied()
        made.lost = self.lost.copied()
        made.resent = self.resent.copied()
        made.recover = self.recover
        made.attempts = self.attempts
        made.pokes = self.pokes
        made.unheard = self.unheard
        made.repeats = self.repeats
        made.timed_end = self.timed_end
        made.timed_at = self.timed_at
        made.trial_low = self.trial_low
        made.trial_high = self.trial_high
        made.period = self.period
        made.older = self.older
        made.newer = self.newer
        made.rests = self.rests

    def _copy_peer(self, made):
        """Tell another end what is known of the peer and was told to it."""
        made.peer_mark = self.peer_mark
        made.peer_first = self.peer_first
        if self.control is not None:
            made.control = copied_control(self.control)
            made.finder = self.finder.copied()
        made.peer_edge = self.peer_edge
        made.greatest = self.greatest
        made.update_seq = self.update_seq
        made.update_ack = self.update_ack
        made.told_edge = self.told_edge
        made.owed = self.owed

    @property
    def flight(self):
        """The number of offsets that are on their way, as far as is known."""
        return self.top - self.una - self.sacked.total() - self.lost.total()

    @property
    def confirmed(self):
        """The number of written bytes that the peer has acknowledged."""
        return self.outbox.base - 1

    @property
    def at_end(self):
        """True if all bytes of the peer have been read."""
        return self.inbox.ended and self.inbox.ready == 0

    def accepts(self, segment):
        """True if the segment belongs to this connection."""
        if self.state == "gone" or segment.source != self.target or segment.target != self.source:
            return False
        is_tagged = segment.tag == self.mark
        is_call = segment.flags == "S" and segment.tag == 0
        if self.peer_mark is not None:
            return segment.mark == self.peer_mark and (is_tagged or is_call)
        if segment.flags == "SA":
            return is_tagged and segment.ack == own_number(self, 1)
        return is_call or "R" in segment.flags and is_tagged and segment.mark == 0

    def deliver(self, segment, now):
        """Take a segment; False if it does not belong to this connection."""
        if not self.accepts(segment):
            return False
        roll(self, now)
        self.unheard = 0
        if self.settings.alive > 0 and self.state == "open":
            self.alarms.arm("alive", now + self.settings.alive)
        receive(self, segment, now)
        settle(self, now)
        return True

    def tick(self, now):
        """Handle the alarms that are due."""
        if self.state != "gone":
            roll(self, now)
            wake(self, now)
            settle(self, now)

    def write(self, data, now):
        """Write bytes and return how many of them were taken."""
        self._require_not_gone()
        count = self.outbox.put(data)
        roll(self, now)
        settle(self, now)
        return count

    def urge(self, data, now):
        """Write urgent bytes and return how many of them were taken."""
        self._require_not_gone()
        count = self.outbox.urge(data)
        roll(self, now)
        settle(self, now)
        return count

    def read(self, count, now):
        """Read at most count bytes."""
        inbox = self.inbox
        is_broken = self.state == "gone" and inbox.ready == 0 and not inbox.ended
        data = inbox.read(count)
        if is_broken:
            raise Broken(self.reason)
        if self.state != "gone":
            roll(self, now)
            if len(data) > 0 and self._is_peer_sending() and is_window_news(self):
                self.owed = 2
            settle(self, now)
        return data

    def resize(self, limit, now):
        """Give the inbox another limit."""
        self._require_not_gone()
        if not is_between(limit, 1, min(65535, self.settings.size // 4)):
            raise InvalidSetting("limit")
        roll(self, now)
        self.inbox.resize(limit)
        if self._is_peer_sending() and (self.inbox.edge < self.told_edge or is_window_news(self)):
            self.owed = 2
        settle(self, now)

    def close(self, now):
        """Let the own stream end."""
        self.outbox.shut()
        if self.state != "gone":
            roll(self, now)
            settle(self, now)

    def abort(self, now):
        """End the connection at once."""
        if self.state == "gone":
            return
        roll(self, now)
        if self.state == "resting":
            end_connection(self, "done")
        else:
            send_reset(self)
            end_connection(self, "aborted")

    def challenge(self, now):
        """Ask whether the peer still knows the connection."""
        if self.state == "gone":
            return
        roll(self, now)
        if self.state == "answering":
            self.lost.put(0, 1)
        elif self.state in ("open", "resting"):
            self.owed = 2
        settle(self, now)

    def drain(self):
        """The segments that were sent since the last call."""
        sent = self.outgoing
        self.outgoing = []
        return sent

    def _require_not_gone(self):
        if self.state == "gone":
            raise Broken(self.reason)

    def _is_peer_sending(self):
        return self.state == "open" and not self.inbox.ended
