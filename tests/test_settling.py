"""lossway.connection: promise 50, how a connection settles."""

import unittest

from lossway.spans import Spans
from tests.ends import answering, numbers, opened, opening, own, peer, peer_segment, resumed, sent


def finished(delay=9, **choices):
    """An open connection whose stream is acknowledged with its finish, while the peer's stream goes on."""
    connection = opened(delay=delay, **choices)
    connection.write([1, 2], 0)
    connection.close(0)
    connection.deliver(numbers(1, connection.top), 0)
    connection.drain()
    assert (connection.state, connection.una, connection.rests) == ("open", 4, True)
    return connection


class OwedTest(unittest.TestCase):
    def test_the_pump_comes_first(self):
        connection = opened(join=False)
        connection.outbox.put([1, 2])
        connection.owed = 2
        connection.tick(1)
        # The bytes carry what was owed, so that no acknowledgement of its own follows.
        self.assertEqual((sent(connection), connection.owed), ([("A", 1, 3, 1)], 0))

    def test_what_is_due(self):
        connection = opened(delay=9)
        connection.owed = 2
        connection.tick(1)
        self.assertEqual((sent(connection), connection.owed, len(connection.alarms)), ([("A", 1, 1, 1)], 0, 0))

    def test_what_may_wait(self):
        connection = opened(delay=9)
        connection.owed = 1
        connection.tick(1)
        self.assertEqual((connection.drain(), connection.owed, connection.alarms.when("delay")), ([], 1, 10))
        connection.tick(5)
        self.assertEqual((connection.drain(), connection.alarms.when("delay")), ([], 10))
        connection.tick(10)
        self.assertEqual((sent(connection), connection.owed, len(connection.alarms)), ([("A", 1, 1, 1)], 0, 0))

    def test_without_a_delay_nothing_waits(self):
        connection = opened(delay=0)
        connection.deliver(numbers(1, 1, data=(1,)), 1)
        self.assertEqual((sent(connection), connection.owed, len(connection.alarms)), ([("A", 1, 1, 2)], 0, 0))

    def test_nothing_is_owed(self):
        connection = opened(delay=0)
        connection.tick(1)
        self.assertEqual((connection.drain(), len(connection.alarms)), ([], 0))


class EndTest(unittest.TestCase):
    def test_who_finishes_first_rests(self):
        connection = finished()
        connection.deliver(numbers(1, 4, flags="AF", data=(7,)), 5)
        self.assertEqual((connection.state, connection.reason), ("resting", ""))
        self.assertEqual((len(connection.alarms), connection.alarms.when("rest")), (1, 69))
        self.assertEqual((sent(connection), connection.owed), ([("A", 4, 4, 3)], 0))

    def test_who_finishes_later_is_done(self):
        connection = opened(delay=9, alive=50)
        connection.deliver(numbers(1, 1, flags="AF", data=(7,)), 1)
        connection.close(1)
        self.assertEqual((connection.state, connection.rests), ("open", False))
        connection.drain()
        connection.deliver(numbers(3, 2), 2)
        self.assertEqual((connection.state, connection.reason, len(connection.alarms)), ("gone", "done", 0))
        self.assertEqual(connection.drain(), [])

    def test_what_is_owed_is_sent_before_the_end(self):
        connection = opened()
        connection.deliver(numbers(1, 1, flags="AF"), 1)
        connection.close(1)
        connection.drain()
        connection.deliver(numbers(1, 2, flags="AF"), 2)
        self.assertEqual((connection.state, sent(connection)), ("gone", [("A", 2, 2, 2)]))

    def test_bytes_that_are_not_read_do_not_matter(self):
        connection = finished()
        connection.deliver(numbers(1, 4, flags="AF", data=(7, 8)), 5)
        self.assertEqual((connection.state, connection.read(9, 6)), ("resting", (7, 8)))

    def test_each_condition(self):
        connection = finished()
        connection.tick(1)
        self.assertEqual(connection.state, "open")
        connection.inbox.finish(3)
        connection.tick(1)
        self.assertEqual(connection.state, "open")
        connection.inbox.take(1, [1, 2])
        connection.una = 3
        connection.tick(1)
        self.assertEqual(connection.state, "open")
        connection.una = 4
        connection.outbox.closed = False
        connection.tick(1)
        self.assertEqual(connection.state, "open")
        connection.outbox.closed = True
        connection.state = "answering"
        connection.tick(1)
        self.assertEqual(connection.state, "answering")
        connection.state = "open"
        connection.tick(1)
        self.assertEqual(connection.state, "resting")

    def test_a_resting_connection_does_not_pump(self):
        connection = finished()
        connection.deliver(numbers(1, 4, flags="AF"), 5)
        connection.drain()
        connection.lost.put(2, 4)
        connection.tick(6)
        self.assertEqual((connection.drain(), len(connection.alarms)), ([], 1))

    def test_resting_ends(self):
        connection = finished(rest=7)
        connection.deliver(numbers(1, 4, flags="AF"), 5)
        connection.tick(11)
        self.assertEqual(connection.state, "resting")
        connection.tick(12)
        self.assertEqual((connection.state, connection.reason, len(connection.alarms)), ("gone", "done", 0))

    def test_the_alarms_of_an_open_connection_end_with_it(self):
        connection = finished(alive=50)
        self.assertEqual(connection.alarms.when("alive"), 50)
        connection.deliver(numbers(1, 4, flags="AF"), 5)
        self.assertEqual((connection.state, connection.alarms.due(999)), ("resting", ["rest"]))

    def test_simultaneous_finishes_rest_both(self):
        connection = opened()
        connection.close(1)
        connection.deliver(numbers(1, 1, flags="AF"), 1)
        self.assertEqual((connection.state, connection.rests), ("open", True))
        connection.deliver(numbers(2, 2), 2)
        self.assertEqual(connection.state, "resting")


class ResendTest(unittest.TestCase):
    def test_resend_is_armed_while_something_is_not_acknowledged(self):
        connection = opened()
        self.assertIsNone(connection.alarms.when("resend"))
        connection.write([1], 3)
        # The only sample was 0, so that the timeout is low.
        self.assertEqual(connection.alarms.when("resend"), 5)
        connection.write([1] * 8, 4)
        self.assertEqual(connection.alarms.when("resend"), 5)
        connection.deliver(numbers(1, 10), 4)
        self.assertIsNone(connection.alarms.when("resend"))

    def test_progress_arms_it_anew(self):
        connection = opened(low=5, high=64, join=False)
        connection.write([1] * 12, 3)
        connection.write([1] * 2, 3)
        self.assertEqual(connection.alarms.when("resend"), 8)
        connection.deliver(numbers(1, 9), 4)
        self.assertEqual(connection.alarms.when("resend"), 4 + connection.estimate.backed(0))

    def test_the_attempts_back_it_off(self):
        connection = opened(low=5, high=64)
        connection.write([1], 3)
        connection.attempts = 2
        connection.alarms.disarm("resend")
        connection.tick(4)
        self.assertEqual(connection.alarms.when("resend"), 24)

    def test_before_the_connection_is_open(self):
        for connection in (opening(), answering()):
            connection.tick(3)
            self.assertEqual(connection.alarms.when("resend"), 8)


class ProbeTest(unittest.TestCase):
    def waiting(self, **choices):
        connection = opened(low=5, high=64, **choices)
        connection.write([1, 2, 3], 0)
        connection.deliver(numbers(1, 4, window=0), 0)
        connection.drain()
        connection.write([4, 5], 1)
        assert connection.drain() == []
        return connection

    def test_probe_is_armed_while_the_peer_is_full(self):
        connection = self.waiting()
        self.assertEqual((connection.alarms.when("probe"), connection.alarms.when("resend")), (6, None))
        connection.write([6], 2)
        self.assertEqual(connection.alarms.when("probe"), 6)
        connection.deliver(numbers(1, 4, window=9), 3)
        self.assertEqual((connection.alarms.when("probe"), sent(connection)), (None, [("A", 4, 7, 1)]))

    def test_the_pokes_back_it_off(self):
        connection = self.waiting()
        connection.pokes = 2
        connection.alarms.disarm("probe")
        connection.tick(2)
        self.assertEqual((connection.alarms.when("probe"), connection.pokes), (22, 2))
        connection.pokes = 61
        connection.alarms.disarm("probe")
        connection.tick(3)
        self.assertEqual((connection.alarms.when("probe"), connection.pokes), (67, 61))

    def test_each_condition(self):
        for name, value in (("state", "answering"), ("una", 3), ("peer_edge", 5)):
            connection = self.waiting()
            connection.pokes = 2
            connection.update_seq = 9
            setattr(connection, name, value)
            connection.tick(2)
            self.assertEqual((connection.alarms.when("probe"), connection.pokes), (None, 0), name)
        connection = self.waiting()
        connection.pokes = 2
        connection.outbox.end = 4
        connection.tick(2)
        self.assertEqual((connection.alarms.when("probe"), connection.pokes), (None, 0))

    def test_the_edge_at_top(self):
        connection = self.waiting()
        connection.peer_edge = 4
        connection.tick(2)
        self.assertEqual(connection.alarms.when("probe"), 6)

    def test_the_finish_alone_is_not_probed_for(self):
        connection = opened(window=0)
        connection.close(0)
        self.assertEqual((sent(connection), connection.alarms.when("probe")), ([("AF", 1, 2, 1)], None))
        self.assertEqual(connection.alarms.due(999), ["resend"])


class PaceTest(unittest.TestCase):
    def held(self, now=0):
        connection = opened(now=now, size=64, inbox=16, life=4, window=60, join=False)
        connection.control.window = 99
        connection.write([7] * 40, now)
        connection.greatest = 0
        connection.tick(now)
        connection.drain()
        assert connection.top == 16
        return connection

    def test_pace_is_armed_for_the_next_period(self):
        connection = self.held()
        self.assertEqual(connection.alarms.when("pace"), 5)
        connection.deliver(numbers(1, 16, size=64), 4)
        self.assertEqual((connection.alarms.when("pace"), connection.alarms.when("probe")), (5, None))
        connection.tick(5)
        self.assertEqual((connection.alarms.when("pace"), connection.older, connection.newer), (10, 0, 16))
        connection.tick(10)
        self.assertEqual((connection.alarms.when("pace"), connection.top), (15, 32))

    def test_each_condition(self):
        connection = self.held()
        connection.state = "answering"
        connection.tick(1)
        self.assertIsNone(connection.alarms.when("pace"))
        connection = self.held()
        connection.outbox.end = 16
        connection.tick(1)
        self.assertIsNone(connection.alarms.when("pace"))
        connection = self.held()
        connection.older, connection.peer_edge = 1, 16
        connection.tick(1)
        self.assertIsNone(connection.alarms.when("pace"))

    def test_both_may_hold(self):
        connection = self.held()
        connection.deliver(numbers(1, 16, window=0, size=64), 4)
        self.assertEqual((connection.alarms.when("pace"), "probe" in connection.alarms), (5, True))


class AliveTest(unittest.TestCase):
    def test_alive_is_armed_once(self):
        connection = opened(alive=20)
        self.assertEqual(connection.alarms.when("alive"), 20)
        connection.write([1], 3)
        connection.tick(4)
        self.assertEqual(connection.alarms.when("alive"), 20)
        connection.deliver(numbers(1, 2), 5)
        self.assertEqual(connection.alarms.when("alive"), 25)

    def test_alive_is_not_armed(self):
        for connection in (opening(alive=20), answering(alive=20), opened(), resumed()):
            connection.tick(3)
            self.assertIsNone(connection.alarms.when("alive"))
        connection = resumed(alive=20)
        self.assertIsNone(connection.alarms.when("alive"))
        connection.tick(3)
        self.assertEqual(connection.alarms.when("alive"), 23)


class GoneTest(unittest.TestCase):
    def test_a_connection_that_is_gone_does_not_settle(self):
        connection = opened()
        connection.outbox.put([1, 2, 3])
        connection.deliver(peer_segment("R"), 1)
        connection.owed = 2
        connection.lost = Spans((1, 2))
        connection.tick(2)
        self.assertEqual((connection.drain(), len(connection.alarms), connection.owed), ([], 0, 2))

    def test_numbers_of_the_last_acknowledgement(self):
        connection = finished()
        connection.deliver(numbers(1, 4, flags="AF", data=(7,)), 5)
        segment, = connection.drain()
        self.assertEqual((segment.seq, segment.ack, segment.flags), (own(4), peer(3), "A"))


if __name__ == "__main__":
    unittest.main()
