"""lossway.connection: promises 41, 52 and 53, the calls of the user."""

import unittest

from lossway.errors import Broken, InvalidNumber, InvalidSetting, NotAllowed
from lossway.segments import Segment
from lossway.spans import Spans
from tests.ends import (
    MARK, PEER, SOURCE, TARGET, answering, look, news, numbers, opened, opening, own, peer, peer_segment, resumed, sent,
)
from tests.test_receiving import resting
from tests.values import NOT_INTEGERS, NOT_SEQUENCES, caught


def gone(reason="reset"):
    """A connection that is gone, with two bytes that were written and two to read."""
    connection = opened()
    connection.write([1, 2], 0)
    connection.deliver(numbers(1, 1, data=(7, 8)), 0)
    if reason == "reset":
        connection.deliver(peer_segment("R"), 0)
    else:
        connection.abort(0)
    connection.drain()
    return connection


class RollingTest(unittest.TestCase):
    """Each method that takes the time rolls the pace first and settles at last."""

    calls = (
        ("deliver", (numbers(2, 1),)), ("tick", ()), ("write", ([],)), ("urge", ([],)), ("read", (0,)),
        ("resize", (64,)), ("close", ()), ("challenge", ()), ("abort", ()),
    )

    def test_they_roll_and_settle(self):
        for name, values in self.calls:
            connection = opened()
            connection.outbox.put([1, 2, 3])
            connection.una = connection.top = 2
            getattr(connection, name)(*values, 20)
            self.assertEqual((connection.period, connection.older, connection.newer), (2, 2, 2), name)
            bytes_sent = [row[1:3] for row in sent(connection) if row[0].startswith("A") and row[2] > row[1]]
            wanted = {"abort": [], "close": [(2, 5)]}
            self.assertEqual(bytes_sent, wanted.get(name, [(2, 4)]), name)

    def test_a_call_that_raises_does_neither(self):
        connection = opened()
        connection.outbox.put([1, 2, 3])
        before = look(connection)
        for name, values, error in (
            ("write", ([256],), InvalidNumber), ("write", (None,), InvalidNumber), ("urge", ("1",), InvalidNumber),
            ("read", (-1,), InvalidNumber), ("resize", (0,), InvalidSetting),
        ):
            with self.assertRaises(error):
                getattr(connection, name)(*values, 20)
            self.assertEqual(look(connection), before)

    def test_a_connection_that_is_gone_does_neither(self):
        connection = gone()
        before = look(connection)
        for name, values in self.calls:
            if name not in ("write", "urge", "resize"):
                getattr(connection, name)(*values, 200)
        after = look(connection)
        self.assertEqual(sorted(news(before, after)), ["outbox"])
        self.assertEqual({**before["outbox"], "closed": "True"}, after["outbox"])


class WriteTest(unittest.TestCase):
    def test_write(self):
        connection = opened(outbox=10)
        self.assertEqual(connection.write([1, 2, 3], 1), 3)
        self.assertEqual(connection.write((4, 5), 1), 2)
        self.assertEqual(connection.write([6] * 9, 1), 5)
        self.assertEqual((connection.write([7], 1), connection.write([], 1)), (0, 0))
        self.assertEqual((connection.outbox.end, connection.outbox.urgent_end), (11, 0))

    def test_urge(self):
        connection = opened(outbox=10)
        self.assertEqual((connection.urge([1, 2, 3], 1), connection.outbox.urgent_end), (3, 4))
        self.assertEqual((connection.urge([4] * 9, 1), connection.outbox.urgent_end), (7, 11))
        self.assertEqual((connection.urge([5], 1), connection.outbox.urgent_end), (0, 11))

    def test_in_each_state(self):
        for connection in (opening(), answering(), opened(), resumed()):
            self.assertEqual((connection.write([1], 1), connection.urge([2], 1), connection.outbox.end), (1, 1, 3))
        for name in ("write", "urge"):
            connection = resting()
            before = look(connection)
            self.assertEqual(caught(NotAllowed, getattr(connection, name), [256], 90), {"state": "closed"})
            self.assertEqual(look(connection), before)

    def test_wrong_data(self):
        for connection in (opening(), answering(), opened()):
            before = look(connection)
            for call in (connection.write, connection.urge):
                for value in NOT_SEQUENCES:
                    self.assertIs(caught(InvalidNumber, call, value, 90)["number"], value)
                for value in (-1, 256, *NOT_INTEGERS):
                    self.assertIs(caught(InvalidNumber, call, [0, value], 90)["number"], value)
            self.assertEqual(look(connection), before)

    def test_gone(self):
        for reason in ("reset", "aborted"):
            connection = gone(reason)
            before = look(connection)
            for call in (connection.write, connection.urge):
                for data in ([1], [], [256], None):
                    self.assertEqual(caught(Broken, call, data, 9), {"reason": reason})
            connection.close(9)
            self.assertEqual(caught(Broken, connection.write, [1], 9), {"reason": reason})
            self.assertEqual(sorted(news(before, look(connection))), ["outbox"])

    def test_lists_are_copied(self):
        connection = opened()
        data = [1, 2, 3]
        connection.write(data, 1)
        data[0] = 9
        self.assertEqual(connection.outbox.cut(1, 4), (1, 2, 3))


class ReadTest(unittest.TestCase):
    def test_read(self):
        connection = opened()
        connection.deliver(numbers(1, 1, data=(1, 2, 3, 4)), 1)
        found = [connection.read(count, 1) for count in (0, 1, 2, 9, 9)]
        self.assertEqual(found, [(), (1,), (2, 3), (4,), ()])

    def test_wrong_counts(self):
        for connection in (opening(), answering(), opened(), resting(), gone(), gone("aborted")):
            before = look(connection)
            for count in (-1, *NOT_INTEGERS):
                self.assertIs(caught(InvalidNumber, connection.read, count, 90)["number"], count)
            self.assertEqual(look(connection), before)

    def test_gone(self):
        connection = gone()
        self.assertEqual((connection.read(0, 9), connection.read(1, 9), connection.read(9, 9)), ((), (7,), (8,)))
        for count in (0, 1):
            self.assertEqual(caught(Broken, connection.read, count, 9), {"reason": "reset"})
        for count in (-1, True, None):
            self.assertIs(caught(InvalidNumber, connection.read, count, 9)["number"], count)

    def test_gone_at_the_end_of_the_stream(self):
        connection = opened()
        connection.deliver(numbers(1, 1, flags="AF", data=(7,)), 1)
        connection.abort(1)
        self.assertEqual([connection.read(9, 9) for _ in range(3)], [(7,), (), ()])

    def test_gone_with_a_finish_behind_a_gap(self):
        connection = opened()
        connection.deliver(numbers(2, 1, flags="AF", data=(7,)), 1)
        connection.abort(1)
        self.assertEqual(caught(Broken, connection.read, 1, 9), {"reason": "aborted"})

    def filled(self, count, inbox, piece, **choices):
        """A connection whose inbox has so many bytes to read, which were acknowledged."""
        connection = opened(inbox=inbox, piece=piece, least=1, **choices)
        for low in range(1, count + 1):
            connection.deliver(numbers(low, 1, data=(low,)), 1)
        connection.owed = 2
        connection.tick(1)
        connection.drain()
        return connection

    def test_a_grown_window_is_told(self):
        # The window has to grow by the smaller of 2 * piece and half of the limit.
        for inbox, piece, least in ((64, 8, 16), (64, 4, 8), (20, 8, 10), (21, 8, 10), (9, 8, 4), (3, 8, 1), (1, 8, 1)):
            connection = self.filled(inbox // 2 + 1, inbox, piece)
            self.assertEqual(connection.told_edge, inbox + 1)
            if least > 1:
                connection.read(least - 1, 2)
                self.assertEqual((connection.drain(), connection.owed), ([], 0))
            connection.read(1, 2)
            self.assertEqual([segment.window for segment in connection.drain()], [inbox - (inbox // 2 + 1) + least])

    def test_a_peer_without_a_window_is_told_earlier(self):
        # Half of the limit is 32, so that 2 * piece decides, and the step is piece.
        connection = self.filled(64, 64, 8)
        self.assertEqual((connection.told_edge, connection.inbox.next_offset), (65, 65))
        connection.read(7, 2)
        self.assertEqual(connection.drain(), [])
        connection.read(1, 2)
        self.assertEqual([segment.window for segment in connection.drain()], [8])
        connection = self.filled(63, 64, 8)
        connection.read(8, 2)
        self.assertEqual(connection.drain(), [])

    def test_reading_nothing_tells_nothing(self):
        connection = self.filled(64, 64, 8)
        connection.inbox.read(40)
        for count in (0, 0):
            connection.read(count, 2)
            self.assertEqual(connection.drain(), [])
        connection.read(1, 2)
        self.assertEqual(len(connection.drain()), 1)

    def test_nothing_is_told_after_the_end(self):
        connection = self.filled(64, 64, 8)
        connection.deliver(numbers(65, 1, flags="AF"), 2)
        connection.drain()
        connection.read(40, 2)
        self.assertEqual(connection.drain(), [])

    def test_nothing_is_told_before_the_begin(self):
        connection = answering()
        connection.drain()
        connection.inbox.take(1, [1] * 64)
        connection.told_edge = 65
        self.assertEqual((len(connection.read(40, 2)), connection.drain(), connection.owed), (40, [], 0))


class ResizeTest(unittest.TestCase):
    def test_resize(self):
        for connection in (opening(), answering(), opened(), resting()):
            for limit in (1, 256, 30):
                self.assertIsNone(connection.resize(limit, 1))
                self.assertEqual(connection.inbox.limit, limit)

    def test_wrong_limits(self):
        for connection in (opening(), answering(), opened(), resting()):
            before = look(connection)
            for limit in (0, -1, 257, 65535, 65536, *NOT_INTEGERS):
                self.assertEqual(caught(InvalidSetting, connection.resize, limit, 90), {"setting": "limit"})
            self.assertEqual(look(connection), before)
        connection = opened(size=4294967296)
        connection.resize(65535, 1)
        self.assertEqual(caught(InvalidSetting, connection.resize, 65536, 1), {"setting": "limit"})

    def test_gone(self):
        connection = gone()
        before = look(connection)
        for limit in (5, 0, None):
            self.assertEqual(caught(Broken, connection.resize, limit, 9), {"reason": "reset"})
        self.assertEqual(look(connection), before)

    def test_a_withdrawn_window_is_told(self):
        connection = opened()
        connection.resize(63, 1)
        self.assertEqual([segment.window for segment in connection.drain()], [63])
        connection.resize(63, 1)
        self.assertEqual(connection.drain(), [])

    def test_a_grown_window_is_told(self):
        for limit, wanted in ((64, []), (79, []), (80, [80]), (200, [200])):
            connection = opened()
            connection.resize(limit, 1)
            self.assertEqual([segment.window for segment in connection.drain()], wanted)

    def test_a_peer_without_a_window_is_told_earlier(self):
        for limit, wanted in ((64, []), (71, []), (72, [8])):
            connection = opened()
            for low in range(1, 65):
                connection.deliver(numbers(low, 1, data=(1,)), 1)
            connection.owed = 2
            connection.tick(1)
            connection.drain()
            connection.resize(limit, 1)
            self.assertEqual([segment.window for segment in connection.drain()], wanted)

    def test_an_unchanged_limit(self):
        connection = opened()
        connection.told_edge = 40
        connection.resize(64, 1)
        self.assertEqual([segment.window for segment in connection.drain()], [64])

    def test_nothing_is_told_in_other_states(self):
        ended = opened()
        ended.deliver(numbers(1, 1, flags="AF"), 1)
        for connection in (opening(), answering(), ended, resting()):
            connection.drain()
            told = connection.told_edge
            connection.resize(20, 1)
            self.assertEqual((connection.drain(), connection.owed, connection.told_edge), ([], 0, told))


class CloseTest(unittest.TestCase):
    def test_close(self):
        connection = opened()
        self.assertIsNone(connection.close(1))
        self.assertEqual((connection.outbox.closed, sent(connection)), (True, [("AF", 1, 2, 1)]))
        before = look(connection)
        connection.close(1)
        self.assertEqual(look(connection), before)

    def test_in_each_state(self):
        for connection in (opening(), answering(), resting(), gone()):
            connection.drain()
            state = connection.state
            for _ in range(2):
                self.assertIsNone(connection.close(1))
            self.assertEqual((connection.state, connection.outbox.closed, connection.drain()), (state, True, []))

    def test_a_connection_that_was_closed_before_it_opened(self):
        connection = opening()
        connection.write([1, 2], 0)
        connection.close(0)
        connection.drain()
        connection.deliver(peer_segment("SA", seq=peer(0), ack=own(1), window=9, piece=8), 1)
        self.assertEqual(sent(connection), [("AF", 1, 4, 1)])


class AbortTest(unittest.TestCase):
    def check(self, connection, reason, resets):
        connection.drain()
        self.assertIsNone(connection.abort(1))
        self.assertEqual((connection.state, connection.reason, len(connection.alarms)), ("gone", reason, 0))
        self.assertEqual(connection.drain(), resets)

    def test_in_each_state(self):
        def reset(offset, ack):
            return Segment(SOURCE, TARGET, tag=PEER, mark=MARK, flags="AR", seq=own(offset), ack=peer(ack))

        self.check(opening(), "aborted", [])
        self.check(answering(), "aborted", [reset(1, 1)])
        self.check(opened(), "aborted", [reset(1, 1)])
        self.check(resumed(), "aborted", [reset(1, 1)])
        self.check(resting(), "done", [])
        connection = opened()
        connection.write([1, 2], 1)
        connection.deliver(numbers(1, 1, flags="AF", data=(5,)), 1)
        self.check(connection, "aborted", [reset(3, 3)])

    def test_gone(self):
        connection = gone()
        before = look(connection)
        connection.abort(90)
        self.assertEqual(look(connection), before)

    def test_the_pace_rolls(self):
        connection = opened()
        connection.abort(20)
        self.assertEqual((connection.period, connection.older, connection.newer), (2, 1, 1))


class ChallengeTest(unittest.TestCase):
    def test_opening(self):
        connection = opening()
        connection.drain()
        before = look(connection)
        self.assertIsNone(connection.challenge(1))
        self.assertEqual(look(connection), before)

    def test_answering(self):
        connection = answering()
        connection.drain()
        connection.challenge(1)
        self.assertEqual((sent(connection), connection.lost), ([("SA", 0, 1, 1)], Spans()))
        self.assertEqual((connection.timed_end, connection.owed), (None, 0))

    def test_open_and_resting(self):
        for connection, offset, ack in ((opened(), 1, 1), (resumed(), 1, 1), (resting(), 2, 2)):
            alarms = {name: connection.alarms.when(name) for name in connection.alarms.due(999)}
            connection.challenge(1)
            self.assertEqual((sent(connection), connection.owed), ([("A", offset, offset, ack)], 0))
            self.assertEqual({name: connection.alarms.when(name) for name in connection.alarms.due(999)}, alarms)

    def test_gone(self):
        connection = gone()
        before = look(connection)
        connection.challenge(90)
        self.assertEqual(look(connection), before)


if __name__ == "__main__":
    unittest.main()
