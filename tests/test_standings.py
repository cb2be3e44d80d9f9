"""Standings: what counts in them, and what does not."""

import unittest

from lossway.curves import control_of
from lossway.segments import Segment
from lossway.settings import Settings
from lossway.spans import Spans
from lossway.station import Station
from lossway.words import pack

MARK, PEER = 65537, 9
NOW = 40


def opened(**choices):
    """A station with one open connection that has sent, stored and read, and with a listener that has waiting ones."""
    station = Station(Settings(**choices))
    for _ in range(NOW):
        station.advance()
    station.listen(80, backlog=3)
    station.connect(70, first=31)
    station.deliver(pack(Segment(70, 40000, tag=MARK, mark=PEER, flags="SA", seq=50, ack=32, window=20, piece=8)))
    station.write(1, list(range(30)))
    for seq, data in ((51, [1, 2]), (55, [5]), (58, [8])):
        came = Segment(70, 40000, tag=MARK, mark=PEER, flags="A", seq=seq, ack=32, window=20, data=data)
        station.deliver(pack(came))
    for source in (7, 8):
        station.deliver(pack(Segment(source, 80, mark=source, flags="S", seq=50, window=20)))
        answer = Segment(source, 80, tag=65536 + source - 5, mark=source, flags="A", seq=51, ack=33)
        station.deliver(pack(answer.changed(ack=(station._connections[source - 5].first + 1) % 1024)))
    station.drain()
    return station


class StandingTest(unittest.TestCase):
    def differs(self, change, counts=True, **choices):
        """Whether a change of one thing changes the standing."""
        station = opened(**choices)
        other = station.copied()
        self.assertEqual(other.standing(), station.standing())
        change(other)
        self.assertEqual(other.standing() != station.standing(), counts)

    def test_a_standing_is_a_plain_tuple(self):
        self.check_plain(opened().standing(), 1)

    def check_plain(self, value, depth):
        # Two standings and a number beside them make a key, which is at most eight deep.
        self.assertLessEqual(depth, 6)
        if isinstance(value, tuple):
            for item in value:
                self.check_plain(item, depth + 1 if isinstance(item, tuple) else depth)
        else:
            self.assertIsInstance(value, (int, str, type(None)))

    def test_the_station(self):
        for name, value in (("era", 2), ("used", 9), ("down", True), ("_next_handle", 9), ("now", NOW + 1)):
            self.differs(lambda one: setattr(one, name, value))

    def test_handed_listeners_and_marks(self):
        self.differs(lambda one: one._handed.pop(1))
        self.differs(lambda one: one._handed.update({2: True}))
        self.differs(lambda one: one._marks_made.pop(MARK))
        self.differs(lambda one: one._marks_made.update({5: True}))
        self.differs(lambda one: one._connections.pop(2))
        self.differs(lambda one: one.listen(81))
        self.differs(lambda one: one._listeners.pop(80))
        self.differs(lambda one: setattr(one._listeners[80], "backlog", 4))
        self.differs(lambda one: one._listeners[80].waiting.pop())
        self.differs(lambda one: one._listeners[80].readied.pop())
        self.differs(lambda one: one._listeners[80].readied.reverse())

    def test_the_order_of_listening_does_not_count(self):
        first, second = Station(Settings()), Station(Settings())
        for station, ports in ((first, (80, 81)), (second, (81, 80))):
            for port in ports:
                station.listen(port)
        self.assertEqual(first.standing(), second.standing())

    def test_each_attribute_of_a_connection(self):
        values = {
            "state": "resting", "source": 5, "target": 5, "mark": 5, "first": 5, "peer_mark": 5, "peer_first": 5,
            "cookie": (1,) * 6, "una": 2, "top": 3, "sacked": Spans((4, 6)), "lost": Spans((4, 6)),
            "resent": Spans((4, 6)), "recover": 9, "attempts": 3, "pokes": 3, "unheard": 3, "repeats": 2,
            "timed_end": 4, "timed_at": 1, "trial_low": 4, "trial_high": 5, "period": 1, "older": 1, "newer": 4,
            "rests": True, "peer_edge": 99, "greatest": 98, "update_seq": 77, "update_ack": 76, "told_edge": 88,
            "owed": 1,
        }
        for name, value in values.items():
            self.assertNotEqual(getattr(opened()._connections[1], name), value, name)
            self.differs(lambda one: setattr(one._connections[1], name, value))

    def test_each_attribute_of_the_buffers(self):
        for name, value in (("base", 2), ("end", 30), ("closed", True), ("urgent_end", 5), ("limit", 9)):
            self.differs(lambda one: setattr(one._connections[1].outbox, name, value))
        self.differs(lambda one: one._connections[1].outbox._kept.reverse())
        for name, value in (("next_offset", 4), ("read_offset", 2), ("final", 30), ("urgent_end", 5), ("limit", 9)):
            self.differs(lambda one: setattr(one._connections[1].inbox, name, value))
        self.differs(lambda one: one._connections[1].inbox._stored.update({8: 7}))

    def test_what_an_inbox_tells(self):
        # The latest run comes first, and is told later than the others.
        self.differs(lambda one: setattr(one._connections[1].inbox, "_latest", 5))
        self.differs(lambda one: setattr(one._connections[1].inbox, "_latest", 8), False)

    def test_each_attribute_of_the_clocks(self):
        for name in ("smooth", "spread", "samples"):
            self.differs(lambda one: setattr(one._connections[1].estimate, name, 77))
        for name in ("resend", "probe", "delay", "pace", "alive", "rest"):
            self.differs(lambda one: one._connections[1].alarms.arm(name, 77))
        self.differs(lambda one: one._connections[1].alarms.disarm("resend"))
        for name, value in (("size", 3), ("ceiling", 99), ("strikes", 1)):
            self.differs(lambda one: setattr(one._connections[1].finder, name, value))

    def test_each_attribute_of_the_controls(self):
        more = {"fixed": (), "climb": (), "curve": ("peak", "span", "born"), "delay": ("least", "latest", "samples")}
        for kind, names in more.items():
            for name in ("unit", "window", "threshold", "credit", "stalled", *names):
                value = True if name == "stalled" else 77
                self.differs(lambda one: setattr(one._connections[1].control, name, value), control=kind)

    def test_the_kind_of_a_control(self):
        def exchange(station):
            old = station._connections[1].control
            new = control_of("climb", old.unit)
            new.window = old.window
            station._connections[1].control = new

        self.differs(exchange, control="fixed")

    def test_no_control_and_no_finder(self):
        self.differs(lambda one: setattr(one._connections[1], "control", None))
        self.differs(lambda one: setattr(one._connections[1], "finder", None))

    def gone(self, station):
        station._connections[1].state = "gone"
        station._connections[1].reason = "done"

    def test_of_what_is_gone_little_counts(self):
        for name in ("una", "mark", "peer_mark", "owed", "attempts", "timed_at", "period"):
            station = opened()
            self.gone(station)
            other = station.copied()
            setattr(other._connections[1], name, 77)
            other._connections[1].outbox.shut()
            other._connections[1].alarms.disarm("resend")
            self.assertEqual(other.standing(), station.standing())
        for change in (lambda one: setattr(one, "reason", "reset"), lambda one: one.inbox.read(1),
                       lambda one: setattr(one.inbox, "limit", 7)):
            other = station.copied()
            change(other._connections[1])
            self.assertNotEqual(other.standing(), station.standing())
        other = station.copied()
        other._handed.pop(1)
        self.assertNotEqual(other.standing(), station.standing())

    def test_times_are_distances(self):
        circle = 1024 * 9
        station = opened(control="curve")
        end = station._connections[1]
        end.control.on_loss(5, NOW - 3)
        end.alarms.arm("probe", NOW + 7)
        other = station.copied()
        other.now += circle
        for one in other._connections.values():
            one.period += 1024
            for name in one.alarms.due(10 ** 9):
                one.alarms.arm(name, one.alarms.when(name) + circle)
            if one.timed_at is not None:
                one.timed_at += circle
        other._connections[1].control.born += circle
        self.assertEqual(other.standing(), station.standing())
        other._connections[1].control.born += 1
        self.assertNotEqual(other.standing(), station.standing())

    def test_the_settings_decide_the_circle_of_times(self):
        for choices, circle in (({}, 1024 * 9), ({"size": 64, "inbox": 8}, 64 * 9), ({"life": 1}, 1024 * 2)):
            station = Station(Settings(**choices))
            first = station.standing()
            station.now = circle
            self.assertEqual(station.standing(), first)
            for now in (1, circle - 1, circle // 2, circle + 1):
                station.now = now
                self.assertNotEqual(station.standing(), first)


if __name__ == "__main__":
    unittest.main()
