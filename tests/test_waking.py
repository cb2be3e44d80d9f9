"""lossway.connection: promise 51, the alarms of a connection."""

import unittest

from lossway.segments import Segment
from lossway.spans import Spans
from tests.ends import (
    MARK, PEER, SOURCE, TARGET, answering, call, look, news, numbers, opened, opening, own, peer, sent,
)
from tests.test_answers import Told, flying


def reset(offset):
    return Segment(SOURCE, TARGET, tag=PEER, mark=MARK, flags="AR", seq=own(offset), ack=peer(1))


class ResendTest(unittest.TestCase):
    def test_an_expiry(self):
        connection = flying(12)
        connection.sacked.put(5, 9)
        connection.resent.put(9, 13)
        connection.repeats, connection.recover, connection.peer_edge = 2, 13, 5
        connection.control.window = 4
        connection.alarms.arm("resend", 7)
        connection.tick(6)
        self.assertEqual((connection.attempts, connection.drain()), (0, []))
        connection.tick(7)
        self.assertEqual((connection.attempts, connection.repeats, connection.recover), (1, 0, None))
        self.assertEqual((connection.timed_end, connection.timed_at), (None, None))
        self.assertEqual(connection.control.told, [("expiry", 8, 7)])
        # All but what was stored is lost; one piece of it is sent again at once.
        self.assertEqual((sent(connection), connection.resent), ([("A", 1, 5, 1)], Spans((1, 5))))
        self.assertEqual((connection.lost, connection.sacked), (Spans((9, 13)), Spans((5, 9))))
        self.assertEqual(connection.alarms.when("resend"), 7 + connection.estimate.backed(1))

    def test_what_was_lost_stays_lost(self):
        connection = flying(12)
        connection.lost.put(3, 7)
        connection.control.window = 4
        connection.alarms.arm("resend", 7)
        connection.tick(7)
        self.assertEqual(connection.control.told, [("expiry", 8, 7)])
        self.assertEqual((sent(connection), connection.lost), ([("A", 1, 5, 1)], Spans((5, 13))))

    def test_the_finish_is_lost_too(self):
        connection = flying(3, closed=True)
        self.assertEqual(connection.top, 5)
        connection.alarms.arm("resend", 7)
        connection.tick(7)
        self.assertEqual((sent(connection), connection.resent), ([("AF", 1, 5, 1)], Spans((1, 5))))

    def test_a_trial_fails(self):
        connection = flying(14, piece=8, seek=True)
        self.assertEqual((connection.trial_low, connection.trial_high), (1, 7))
        connection.alarms.arm("resend", 7)
        connection.tick(7)
        self.assertEqual((connection.finder.strikes, connection.trial_low, connection.trial_high), (1, None, None))

    def test_an_opening(self):
        connection = opening()
        connection.drain()
        for attempts, when in ((1, 8), (2, 24), (3, 56), (4, 120), (5, 184), (6, 248)):
            self.assertEqual(connection.alarms.when("resend"), when)
            connection.tick(when - 1)
            self.assertEqual(connection.drain(), [])
            connection.tick(when)
            self.assertEqual((connection.attempts, sent(connection)), (attempts, [("S", 0, 1, None)]))
        self.assertEqual(connection.alarms.when("resend"), 312)
        connection.tick(312)
        # The peer is not known, so that no reset is sent.
        self.assertEqual((connection.state, connection.reason, connection.drain()), ("gone", "silent", []))
        self.assertEqual((len(connection.alarms), connection.attempts), (0, 6))

    def test_an_answer(self):
        connection = answering(tries=1)
        connection.control = Told()
        connection.drain()
        connection.tick(8)
        self.assertEqual((connection.attempts, sent(connection)), (1, [("SA", 0, 1, 1)]))
        self.assertEqual(connection.control.told, [("expiry", 1, 8)])
        connection.tick(24)
        self.assertEqual((connection.state, connection.reason), ("gone", "silent"))
        self.assertEqual(connection.drain(), [reset(1)])

    def test_giving_up(self):
        connection = opened(tries=2)
        connection.write([1, 2], 1)
        connection.drain()
        connection.tick(3)
        connection.tick(7)
        self.assertEqual((len(connection.drain()), connection.attempts, connection.alarms.when("resend")), (2, 2, 15))
        connection.tick(15)
        self.assertEqual((connection.state, connection.reason, len(connection.alarms)), ("gone", "silent", 0))
        self.assertEqual(connection.drain(), [reset(3)])

    def test_a_poke_instead(self):
        connection = flying(12)
        connection.update_seq = 9
        connection.sacked.put(5, 9)
        connection.repeats, connection.recover, connection.peer_edge = 2, 13, 1
        connection.alarms.arm("resend", 7)
        before = look(connection)
        connection.tick(7)
        self.assertEqual(sent(connection), [("A", 0, 0, 1)])
        changed = news(before, look(connection))
        self.assertEqual(sorted(changed), ["alarms", "attempts", "timed_at", "timed_end"])
        self.assertEqual((connection.attempts, connection.alarms.due(999)), (1, ["resend"]))
        self.assertEqual(connection.control.told, [])

    def test_each_condition_of_the_poke(self):
        connection = flying(12)
        connection.peer_edge = 2
        connection.alarms.arm("resend", 7)
        connection.tick(7)
        self.assertEqual(sent(connection), [("A", 1, 2, 1)])
        connection = flying(0, closed=True)
        connection.peer_edge = 0
        connection.alarms.arm("resend", 7)
        connection.tick(7)
        self.assertEqual(sent(connection), [("AF", 1, 2, 1)])
        connection = answering(segment=call(window=0))
        connection.outbox.put([1, 2])
        connection.drain()
        connection.tick(8)
        self.assertEqual(sent(connection), [("SA", 0, 1, 1)])


class ProbeTest(unittest.TestCase):
    def shut(self, **choices):
        connection = opened(window=0, low=5, high=64, **choices)
        connection.write([1, 2], 0)
        assert connection.drain() == []
        return connection

    def test_pokes(self):
        connection = self.shut(tries=3)
        for number, when in ((1, 5), (2, 15), (3, 35)):
            self.assertEqual(connection.alarms.when("probe"), when)
            connection.tick(when)
            self.assertEqual(sent(connection), [("A", 0, 0, 1)])
            self.assertEqual((connection.pokes, connection.unheard), (number, number))
        self.assertEqual(connection.alarms.when("probe"), 75)
        connection.tick(75)
        self.assertEqual((connection.state, connection.reason), ("gone", "silent"))
        self.assertEqual((connection.drain(), connection.pokes, connection.unheard), ([reset(1)], 3, 3))

    def test_a_peer_that_answers_is_poked_for_ever(self):
        connection = self.shut(tries=2)
        now = 0
        for number in range(1, 80):
            now = connection.alarms.when("probe")
            connection.tick(now)
            self.assertEqual((sent(connection), connection.pokes, connection.unheard), ([("A", 0, 0, 1)], number, 1))
            connection.deliver(numbers(1, 1, window=0), now + 1)
            self.assertEqual((connection.unheard, connection.pokes), (0, number))
        self.assertEqual(connection.alarms.when("probe"), now + 64)
        connection.deliver(numbers(1, 1, window=1), now + 2)
        self.assertEqual((connection.pokes, sent(connection)), (0, [("A", 1, 2, 1)]))


class DelayTest(unittest.TestCase):
    def test_what_waited_is_due(self):
        connection = opened(delay=4)
        connection.deliver(numbers(1, 1, data=(1,)), 1)
        connection.tick(4)
        self.assertEqual(connection.drain(), [])
        connection.tick(5)
        self.assertEqual((sent(connection), connection.owed, len(connection.alarms)), ([("A", 1, 1, 2)], 0, 0))

    def test_nothing_is_due_if_nothing_is_owed(self):
        connection = opened(delay=4)
        connection.alarms.arm("delay", 3)
        connection.tick(3)
        self.assertEqual((connection.drain(), connection.owed, len(connection.alarms)), ([], 0, 0))


class AliveTest(unittest.TestCase):
    def test_pokes(self):
        connection = opened(alive=20, tries=2)
        for number, when in ((1, 20), (2, 40)):
            connection.tick(when - 1)
            self.assertEqual(connection.drain(), [])
            connection.tick(when)
            self.assertEqual((sent(connection), connection.unheard, connection.pokes), ([("A", 0, 0, 1)], number, 0))
            self.assertEqual(connection.alarms.when("alive"), when + 20)
        connection.tick(60)
        self.assertEqual((connection.state, connection.reason, connection.drain()), ("gone", "silent", [reset(1)]))
        self.assertEqual(len(connection.alarms), 0)

    def test_the_pokes_of_a_probe_stay(self):
        connection = opened(window=0, alive=20, low=30, high=64)
        connection.write([1, 2], 0)
        connection.pokes = 3
        connection.tick(20)
        self.assertEqual((sent(connection), connection.pokes, connection.unheard), ([("A", 0, 0, 1)], 3, 1))

    def test_an_answer_is_heard(self):
        connection = opened(alive=20, tries=1)
        for when in (20, 41, 62):
            connection.tick(when)
            self.assertEqual((len(connection.drain()), connection.unheard), (1, 1))
            connection.deliver(numbers(1, 1), when + 1)
            self.assertEqual((connection.unheard, connection.alarms.when("alive")), (0, when + 21))


class OthersTest(unittest.TestCase):
    def test_rest(self):
        connection = opened(rest=9)
        connection.close(0)
        connection.deliver(numbers(1, 2, flags="AF"), 1)
        connection.drain()
        connection.tick(9)
        self.assertEqual(connection.state, "resting")
        connection.tick(10)
        self.assertEqual((connection.state, connection.reason, connection.drain()), ("gone", "done", []))

    def test_pace(self):
        connection = opened()
        connection.alarms.arm("pace", 3)
        before = look(connection)
        connection.tick(3)
        self.assertEqual(news(before, look(connection)), {"alarms": {}})

    def test_the_pace_makes_nothing_due(self):
        connection = opened(delay=50)
        connection.deliver(numbers(1, 1, data=(1,)), 1)
        connection.alarms.arm("pace", 3)
        connection.tick(3)
        self.assertEqual((connection.drain(), connection.owed, connection.alarms.due(99)), ([], 1, ["delay"]))

    def test_late_alarms_are_handled_too(self):
        connection = opened(delay=4)
        connection.deliver(numbers(1, 1, data=(1,)), 1)
        connection.tick(300)
        self.assertEqual(sent(connection), [("A", 1, 1, 2)])

    def test_several_alarms_in_the_order_of_their_times(self):
        connection = opened(window=0, alive=20, low=5, high=64, delay=4)
        connection.write([1], 0)
        connection.deliver(numbers(1, 1, window=0, data=(1,)), 0)
        self.assertEqual((connection.alarms.when("delay"), connection.alarms.when("probe")), (4, 5))
        connection.tick(20)
        # The delay makes an acknowledgement due, which the first poke pays; the second one is that of alive.
        self.assertEqual(sent(connection), [("A", 0, 0, 2), ("A", 0, 0, 2)])
        self.assertEqual((connection.unheard, connection.pokes), (2, 1))

    def test_an_alarm_that_another_one_disarmed_is_passed_over(self):
        connection = opened(window=0, low=5, high=64, delay=5)
        connection.write([1], 0)
        connection.deliver(numbers(1, 1, window=0, data=(1,)), 0)
        self.assertEqual((connection.alarms.when("delay"), connection.alarms.when("probe")), (5, 5))
        connection.tick(5)
        # The poke pays, so that the delay makes nothing due.
        self.assertEqual((sent(connection), connection.owed), ([("A", 0, 0, 2)], 0))

    def test_nothing_is_handled_after_the_end(self):
        connection = opened(window=0, low=5, high=64, alive=5, tries=1)
        connection.write([1], 0)
        connection.unheard = 1
        connection.tick(5)
        self.assertEqual((connection.state, connection.drain()), ("gone", [reset(1)]))
        connection = opened(alive=5, delay=5)
        connection.alarms.arm("rest", 4)
        connection.tick(5)
        self.assertEqual((connection.state, connection.reason, connection.drain()), ("gone", "done", []))

    def test_gone(self):
        connection = opened()
        connection.abort(0)
        connection.drain()
        connection.alarms.arm("alive", 5)
        before = look(connection)
        connection.tick(90)
        self.assertEqual(look(connection), before)

    def test_the_pace_rolls_before_the_alarms(self):
        connection = opened(rest=9)
        connection.alarms.arm("rest", 20)
        connection.tick(20)
        self.assertEqual((connection.state, connection.period, connection.older, connection.newer), ("gone", 2, 1, 1))


if __name__ == "__main__":
    unittest.main()
