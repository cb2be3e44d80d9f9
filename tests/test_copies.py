"""Copies of stations and of their parts: in the same state, and untouched by what happens to the other one."""

import unittest
from random import Random

from lossway.alarms import Alarms
from lossway.control import Control
from lossway.curves import KINDS, control_of, copied_control
from lossway.errors import LossError
from lossway.estimate import Estimate
from lossway.finder import Finder
from lossway.inbox import Inbox
from lossway.listeners import Listener
from lossway.outbox import Outbox
from lossway.segments import Segment
from lossway.settings import Settings
from lossway.spans import Spans
from lossway.station import Station
from lossway.words import pack
from tests.worlds import drawn_world


def plain(value):
    """All that an object holds, as plain values."""
    if isinstance(value, dict):
        return {key: plain(item) for key, item in value.items()}
    if isinstance(value, (list, tuple)):
        return [plain(item) for item in value]
    if hasattr(value, "__dict__"):
        return (value.__class__.__name__, plain(vars(value)))
    return value


class PartsTest(unittest.TestCase):
    def check(self, part, *changes):
        """A copy has the same state, and no change of one reaches the other."""
        for change in changes:
            made, kept = part.copied(), plain(part)
            self.assertEqual(plain(made), kept)
            change(made)
            self.assertEqual(plain(part), kept)
            self.assertNotEqual(plain(made), kept)

    def test_spans(self):
        self.check(Spans((1, 3), (5, 9)), lambda one: one.put(3, 4), lambda one: one.drop(1, 2))

    def test_outbox(self):
        outbox = Outbox(9)
        outbox.urge([1, 2, 3])
        outbox.release(2)
        self.check(outbox, lambda one: one.put([4]), lambda one: one.shut(), lambda one: one.release(3),
                   lambda one: one.resize(5))
        outbox.shut()
        self.check(outbox, lambda one: one.release(4))

    def test_inbox(self):
        inbox = Inbox(20)
        for offset, data in ((1, [1, 2]), (5, [5, 6]), (9, [9])):
            inbox.take(offset, data)
        inbox.mark_urgent(7)
        self.assertEqual(inbox.copied().told_runs(), inbox.told_runs())
        self.check(inbox, lambda one: one.take(3, [3]), lambda one: one.read(1), lambda one: one.finish(30),
                   lambda one: one.mark_urgent(9), lambda one: one.resize(3))
        inbox.finish(12)
        self.check(inbox, lambda one: one.take(3, [3]))

    def test_what_an_inbox_has_stored(self):
        inbox = Inbox(20)
        inbox.take(5, [5, 6])
        inbox.take(1, [1, 2])
        self.assertEqual(inbox.stored(), [(1, 1), (2, 2), (5, 5), (6, 6)])
        inbox.read(1)
        self.assertEqual(inbox.stored(), [(2, 2), (5, 5), (6, 6)])

    def test_small_parts(self):
        estimate = Estimate(3, 50)
        estimate.sample(7)
        self.check(estimate, lambda one: one.sample(9))
        alarms = Alarms()
        alarms.arm("delay", 4)
        self.check(alarms, lambda one: one.arm("delay", 5), lambda one: one.disarm("delay"))
        finder = Finder(4, 9)
        finder.failed(7)
        self.check(finder, lambda one: one.failed(7), lambda one: one.passed(6))
        self.check(Finder(4, 4), lambda one: setattr(one, "strikes", 1))
        listener = Listener(3)
        listener.waiting.extend([1, 2])
        listener.readied.append(2)
        self.check(listener, lambda one: one.drop(2), lambda one: one.waiting.append(4))

    def test_controls(self):
        for kind in KINDS:
            control = control_of(kind, 5)
            for now in range(1, 40):
                control.on_ack(9, 30, now)
                control.on_sample(now % 7)
                if now % 13 == 0:
                    control.on_loss(20, now)
                if now % 17 == 0:
                    control.on_expiry(20, now)
                made = copied_control(control)
                self.assertEqual(plain(made), plain(control))
                self.assertIsInstance(made, Control)
                made.on_expiry(10, now)
                made.window = 1
                self.assertNotEqual(plain(made), plain(control))


class StationTest(unittest.TestCase):
    def calls(self, random, station):
        handles = [] if station.down else station.handles()
        handle = random.choice(handles) if handles else 1
        return (
            lambda one: one.advance(), lambda one: one.write(handle, [1, 2, 3]), lambda one: one.read(handle, 3),
            lambda one: one.close(handle), lambda one: one.abort(handle), lambda one: one.resize(handle, 4),
            lambda one: one.forget(handle), lambda one: one.connect(80), lambda one: one.accept(80),
            lambda one: one.listen(99), lambda one: one.unlisten(80), lambda one: one.crash(),
            lambda one: one.start(), lambda one: one.deliver(pack(Segment(9, 80, flags="S", mark=7, window=5))),
        )

    def test_a_copy_is_equal_and_independent(self):
        for seed in range(25):
            world, _, _ = drawn_world(seed, steps=120)
            random = Random(seed)
            for station in world.stations:
                kept = plain(station)
                for call in self.calls(random, station):
                    made = station.copied()
                    self.assertEqual(plain(made), kept)
                    self.attempt(call, made)
                    self.assertEqual(plain(station), kept)

    def attempt(self, call, station):
        try:
            call(station)
        except LossError:
            pass

    def test_a_copy_goes_on_alike(self):
        for seed in range(25):
            world, _, _ = drawn_world(seed, steps=120)
            for station in world.stations:
                made = station.copied()
                for _ in range(60):
                    for one in (station, made):
                        one.advance()
                    self.assertEqual(made.drain(), station.drain())
                self.assertEqual(plain(made), plain(station))

    def test_what_was_not_drained_is_copied(self):
        station = Station(Settings())
        station.connect(80)
        made = station.copied()
        self.assertEqual(made.drain(), station.copied().drain())
        self.assertEqual(len(station.drain()), 1)


if __name__ == "__main__":
    unittest.main()
