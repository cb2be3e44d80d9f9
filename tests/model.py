"""A plain model of one end of a connection, point by point, with sets of single offsets.

It takes the buffers, clocks and controls from the package, which have tests of their own.
"""

from lossway.alarms import Alarms
from lossway.curves import control_of
from lossway.errors import InvalidNumber
from lossway.estimate import Estimate
from lossway.finder import Finder
from lossway.inbox import Inbox
from lossway.outbox import Outbox
from lossway.segments import Segment


class Model:
    def __init__(self, settings, source, target, mark, first, now):
        self.settings, self.source, self.target, self.mark, self.first = settings, source, target, mark, first
        self.state, self.reason = "opening", ""
        self.peer_mark = self.peer_first = self.control = self.finder = None
        self.outbox, self.inbox = Outbox(settings.outbox), Inbox(settings.inbox)
        self.estimate, self.alarms = Estimate(settings.low, settings.high), Alarms()
        self.una = self.top = self.older = self.newer = 0
        self.sacked, self.lost, self.resent = set(), set(), set()
        self.recover = self.timed_end = self.timed_at = self.trial_low = self.trial_high = None
        self.peer_edge = self.greatest = self.update_seq = 0
        self.update_ack = 1
        self.told_edge = self.inbox.edge
        self.owed = self.attempts = self.pokes = self.unheard = self.repeats = 0
        self.period = now // (settings.life + 1)
        self.rests, self.cookie, self.out = False, (), []

    # 37
    def wrap(self, number):
        return number % self.settings.size

    def near(self, number, around):
        half = self.settings.size // 2
        found = [offset for offset in range(around - half, around + half) if self.wrap(offset) == number]
        return found[0]

    # 39, 40
    def begin(self, now):
        self.send_opening()
        self.top, self.timed_end, self.timed_at = 1, 1, now
        self.alarms.arm("resend", now + self.estimate.backed(0))

    def know(self, mark, first, piece, window):
        self.peer_mark, self.peer_first = mark, first
        self.peer_edge, self.greatest, self.update_seq, self.update_ack = 1 + window, window, 0, 1
        unit = self.settings.least if piece == 0 else min(self.settings.piece, piece)
        self.control = control_of(self.settings.control, unit)
        if self.settings.seek:
            self.finder = Finder(min(self.settings.least, unit), unit)
        else:
            self.finder = Finder(unit, unit)

    @property
    def flight(self):
        return self.top - self.una - len(self.sacked) - len(self.lost)

    # 42
    def roll(self, now):
        k = now // (self.settings.life + 1)
        if k == self.period + 1:
            self.older, self.newer = self.newer, self.una
        elif k > self.period + 1:
            self.older = self.newer = self.una
        self.period = k

    # 43, 44
    def emit(self, low, flags, **fields):
        step = min(self.settings.piece, max(1, self.inbox.limit // 2))
        if "window" not in fields:
            if self.inbox.edge < self.told_edge:
                self.told_edge = self.inbox.edge
            if self.inbox.edge - self.told_edge >= step:
                self.told_edge = self.inbox.edge
            if self.told_edge < self.inbox.next_offset:
                self.told_edge = self.inbox.next_offset
            fields["window"] = self.told_edge - self.inbox.next_offset
            if "S" not in flags:
                fields["cookie"] = self.cookie
        fields.update(tag=self.peer_mark or 0, mark=self.mark, flags=flags, seq=self.wrap(self.first + low))
        if "A" in flags:
            fields["ack"] = self.wrap(self.peer_first + self.inbox.expected)
            if self.settings.tell and "S" not in flags and "R" not in flags:
                fields["blocks"] = [
                    [self.wrap(self.peer_first + low), self.wrap(self.peer_first + high)]
                    for low, high in self.inbox.told_runs()
                ]
            self.owed = 0
            self.alarms.disarm("delay")
        self.out.append(Segment(self.source, self.target, **fields))

    def send_opening(self):
        self.emit(0, "S" if self.state == "opening" else "SA", piece=self.settings.piece)

    def send_range(self, low, high):
        data = self.outbox.cut(low, min(high, self.outbox.end))
        flags, urgent = "A", 0
        if self.outbox.closed and high == self.outbox.end + 1:
            flags += "F"
        if self.outbox.urgent_end > low and len(data) >= 1:
            flags += "U"
            urgent = self.outbox.urgent_end - low
        self.emit(low, flags, data=data, urgent=urgent)

    def send_reset(self):
        if self.peer_mark is not None:
            self.emit(self.top, "AR", window=0)

    # 45, 46
    def pump(self, now):
        while self.lost:
            low = min(self.lost)
            high = low
            while high in self.lost:
                high += 1
            if low == 0:
                self.send_opening()
                self.lost.remove(0)
                self.timed_end = self.timed_at = None
                continue
            if self.state != "open":
                return
            end = min(high, self.outbox.end, low + self.finder.size)
            if low < self.outbox.end:
                if self.peer_edge <= low:
                    return
                end = min(end, self.peer_edge)
            stop = end
            if self.outbox.end in range(low, high) and end == self.outbox.end:
                stop = self.outbox.end + 1
            if self.flight > 0 and self.flight + stop - low > self.control.window:
                return
            self.send_range(low, stop)
            self.lost -= set(range(low, stop))
            self.resent |= set(range(low, stop))
            self.timed_end = self.timed_at = None
        if self.state != "open":
            return
        while self.top < self.outbox.bound:
            left = self.outbox.end - self.top
            room = max(0, min(self.peer_edge, self.older + self.settings.size // 4) - self.top)
            want, trial = min(self.finder.size, left), False
            size = self.finder.trial()
            if size > 0 and self.trial_low is None and self.recover is None and left >= size and room >= size:
                want, trial = size, True
            count = min(want, room)
            if left > 0 and count == 0:
                return
            if count < self.finder.size and left > 0:
                if count == left and self.settings.join and self.una < self.top and not self.outbox.closed:
                    if not self.outbox.urgent_end > self.top:
                        return
                if count < left and self.una < self.top and 2 * count < self.greatest:
                    return
            finish = self.outbox.closed and count == left
            stop = self.top + count + (1 if finish else 0)
            if self.flight > 0 and self.flight + stop - self.top > self.control.window:
                return
            self.send_range(self.top, stop)
            if finish and not self.inbox.ended:
                self.rests = True
            if self.timed_end is None:
                self.timed_end, self.timed_at = stop, now
            if trial:
                self.trial_low, self.trial_high = self.top, self.top + count
            self.top = stop

    # 47
    def accepts(self, segment):
        if self.state == "gone" or segment.source != self.target or segment.target != self.source:
            return False
        known = self.peer_mark is not None
        one = self.wrap(self.first + 1)
        return any([
            known and segment.tag == self.mark and segment.mark == self.peer_mark,
            known and segment.flags == "S" and segment.tag == 0 and segment.mark == self.peer_mark,
            self.state == "opening" and segment.flags == "S" and segment.tag == 0,
            self.state == "opening" and segment.flags == "SA" and segment.tag == self.mark and segment.ack == one,
            self.state == "opening" and "R" in segment.flags and segment.tag == self.mark and segment.mark == 0,
        ])

    def deliver(self, segment, now):
        if not self.accepts(segment):
            return False
        self.roll(now)
        self.unheard = 0
        if self.settings.alive > 0 and self.state == "open":
            self.alarms.arm("alive", now + self.settings.alive)
        self.handle(segment, now)
        self.settle(now)
        return True

    def handle(self, segment, now):
        flags = segment.flags
        if "R" in flags:
            self.end("done" if self.state == "resting" else "reset")
        elif self.state == "opening":
            self.know(segment.mark, segment.seq, segment.piece, segment.window)
            if flags == "SA":
                self.progress(1, now)
                self.state, self.cookie, self.owed = "open", segment.cookie, 2
            else:
                self.state = "answering"
                self.lost.add(0)
        elif "S" in flags:
            if self.state == "answering":
                if "A" in flags and segment.ack == self.wrap(self.first + 1):
                    self.progress(1, now)
                    self.state, self.owed = "open", 2
                else:
                    self.lost.add(0)
            else:
                self.owed = 2
                if self.state == "resting":
                    self.alarms.arm("rest", now + self.settings.rest)
        elif "A" in flags:
            k = self.near(self.wrap(segment.ack - self.first), self.una)
            s = self.near(self.wrap(segment.seq - self.peer_first), self.inbox.next_offset)
            if self.state == "answering":
                if k != 1 or s < 0:
                    return
            else:
                self.cookie = ()
                if k > self.top or s < 0:
                    self.owed = 2
                    return
            self.acknowledged(segment, k, s, now)
            self.bytes_came(segment, s, now)

    # 48
    def progress(self, k, now):
        if k <= self.una:
            return
        if self.timed_end is not None and k >= self.timed_end:
            self.estimate.sample(now - self.timed_at)
            self.control.on_sample(now - self.timed_at)
            self.timed_end = self.timed_at = None
        self.una = k
        self.outbox.release(min(k, self.outbox.end))
        for offsets in (self.sacked, self.lost, self.resent):
            offsets -= set(range(k))
        self.attempts = self.repeats = 0
        self.alarms.disarm("resend")
        if self.recover is not None and k >= self.recover:
            self.recover = None

    def acknowledged(self, segment, k, s, now):
        if self.state == "answering":
            self.state = "open"
        before, edge = self.una, self.peer_edge
        if k >= self.una and (s > self.update_seq or s == self.update_seq and k >= self.update_ack):
            self.peer_edge, self.update_seq, self.update_ack = k + segment.window, s, k
            self.greatest = max(self.greatest, segment.window)
            if self.peer_edge <= self.una:
                self.attempts = 0
        self.progress(k, now)
        for low, high in segment.blocks:
            low = self.near(self.wrap(low - self.first), self.una)
            high = self.near(self.wrap(high - self.first), self.una)
            if self.una <= low < high <= self.top:
                self.sacked |= set(range(low, high))
                self.lost -= set(range(low, high))
        if self.trial_high is not None and self.una >= self.trial_high:
            self.finder.passed(self.trial_high - self.trial_low)
            self.trial_low = self.trial_high = None
        suspects = set()
        front = set(range(self.una, min(self.una + self.finder.size, self.top)))
        if k > before and self.recover is None:
            count = len(range(max(1, before), self.una))
            if count > 0:
                self.control.on_ack(min(65535, count), self.flight, now)
        elif k > before:
            suspects |= front
        elif k == self.una and self.una < self.top and segment.extent == 0 and self.peer_edge == edge:
            self.repeats += 1
            if self.repeats == 3:
                suspects |= front
        if self.una < self.top and len(self.sacked) >= 3 * self.finder.size:
            suspects |= set(range(self.una, sorted(self.sacked)[-3 * self.finder.size]))
        found = suspects - self.sacked - self.lost - self.resent
        if found:
            if self.recover is None:
                self.control.on_loss(self.flight, now)
                self.recover = self.top
            self.lost |= found
            if self.trial_low is not None and found & set(range(self.trial_low, self.trial_high)):
                self.trial_failed()

    def trial_failed(self):
        if self.trial_low is not None:
            self.finder.failed(self.trial_high - self.trial_low)
            self.trial_low = self.trial_high = None

    # 49
    def bytes_came(self, segment, s, now):
        before, count = self.inbox.next_offset, len(segment.data)
        if count > 0 or "F" in segment.flags:
            if "U" in segment.flags:
                self.inbox.mark_urgent(s + segment.urgent)
            stored = self.inbox.take(s, segment.data)
            if "F" in segment.flags:
                try:
                    self.inbox.finish(s + count)
                except InvalidNumber:
                    pass
            in_order = "F" not in segment.flags and stored > 0 and s <= before
            if in_order and self.inbox.next_offset == s + count and not self.inbox.told_runs():
                self.owed = 1 if self.owed == 0 else 2
            else:
                self.owed = 2
        elif s < self.inbox.expected:
            self.owed = 2
        if self.state == "resting" and self.owed == 2:
            self.alarms.arm("rest", now + self.settings.rest)

    # 50
    def end(self, reason):
        self.state, self.reason = "gone", reason
        self.alarms = Alarms()

    def settle(self, now):
        if self.state == "gone":
            return
        settings, alarms = self.settings, self.alarms
        if self.state != "resting":
            self.pump(now)
        if self.owed == 2 or self.owed == 1 and settings.delay == 0:
            self.emit(self.top, "A")
        if self.owed == 1 and "delay" not in alarms:
            alarms.arm("delay", now + settings.delay)
        finished = self.outbox.closed and self.una == self.outbox.bound and self.inbox.ended
        if self.state == "open" and finished:
            if not self.rests:
                self.end("done")
                return
            self.state = "resting"
            alarms = self.alarms = Alarms()
            alarms.arm("rest", now + settings.rest)
        if self.state != "resting":
            if self.una == self.top:
                alarms.disarm("resend")
            elif "resend" not in alarms:
                alarms.arm("resend", now + self.estimate.backed(self.attempts))
        is_open, unsent = self.state == "open", self.top < self.outbox.end
        if is_open and self.una == self.top and unsent and self.peer_edge <= self.top:
            if "probe" not in alarms:
                alarms.arm("probe", now + self.estimate.backed(min(self.pokes, 60)))
        else:
            alarms.disarm("probe")
            self.pokes = 0
        if is_open and unsent and self.older + settings.size // 4 <= self.top:
            alarms.arm("pace", (self.period + 1) * (settings.life + 1))
        else:
            alarms.disarm("pace")
        if is_open and settings.alive > 0 and "alive" not in alarms:
            alarms.arm("alive", now + settings.alive)

    # 51
    def tick(self, now):
        if self.state == "gone":
            return
        self.roll(now)
        for name in self.alarms.due(now):
            when = self.alarms.when(name)
            if self.state != "gone" and when is not None and when <= now:
                self.alarms.disarm(name)
                self.wake(name, now)
        self.settle(now)

    def give_up(self):
        self.send_reset()
        self.end("silent")

    def wake(self, name, now):
        if name == "resend":
            if self.attempts == self.settings.tries:
                self.give_up()
                return
            self.attempts += 1
            self.timed_end = self.timed_at = None
            if self.state == "open" and self.una < self.outbox.end and self.peer_edge <= self.una:
                self.emit(self.una - 1, "A")
                return
            if self.control is not None:
                self.control.on_expiry(self.flight, now)
            self.repeats, self.recover, self.resent = 0, None, set()
            self.trial_failed()
            self.lost |= set(range(self.una, self.top)) - self.sacked
        elif name in ("probe", "alive"):
            if self.unheard == self.settings.tries:
                self.give_up()
                return
            self.unheard += 1
            self.pokes += 1 if name == "probe" else 0
            self.emit(self.una - 1, "A")
            if name == "alive":
                self.alarms.arm("alive", now + self.settings.alive)
        elif name == "delay" and self.owed == 1:
            self.owed = 2
        elif name == "rest":
            self.end("done")

    # 52, 53; the calls are those that raise no error
    def news(self):
        grown, limit = self.inbox.edge - self.told_edge, self.inbox.limit
        return grown >= min(2 * self.settings.piece, max(1, limit // 2)) or (
            self.told_edge <= self.inbox.next_offset and grown >= min(self.settings.piece, max(1, limit // 2)))

    def write(self, data, now):
        self.roll(now)
        count = self.outbox.put(data)
        self.settle(now)
        return count

    def urge(self, data, now):
        self.roll(now)
        count = self.outbox.urge(data)
        self.settle(now)
        return count

    def read(self, count, now):
        if self.state == "gone":
            return self.inbox.read(count)
        self.roll(now)
        data = self.inbox.read(count)
        if data and not self.inbox.ended and self.state == "open" and self.news():
            self.owed = 2
        self.settle(now)
        return data

    def resize(self, limit, now):
        self.roll(now)
        self.inbox.resize(limit)
        if self.state == "open" and not self.inbox.ended and (self.inbox.edge < self.told_edge or self.news()):
            self.owed = 2
        self.settle(now)

    def close(self, now):
        if self.state == "gone":
            self.outbox.shut()
            return
        self.roll(now)
        self.outbox.shut()
        self.settle(now)

    def abort(self, now):
        if self.state == "gone":
            return
        self.roll(now)
        if self.state == "resting":
            self.end("done")
        else:
            self.send_reset()
            self.end("aborted")

    def challenge(self, now):
        if self.state == "gone":
            return
        self.roll(now)
        if self.state == "answering":
            self.lost.add(0)
        elif self.state in ("open", "resting"):
            self.owed = 2
        self.settle(now)

    def drain(self):
        sent, self.out = self.out, []
        return sent
