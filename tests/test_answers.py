"""lossway.connection: promise 48, what a connection learns from an acknowledgement."""

import unittest

from lossway.spans import Spans
from tests.ends import answering, call, numbers, opened, sent


class Told:
    """A control that keeps what it is told, with a window so wide that it holds nothing."""

    def __init__(self):
        self.window = 10 ** 6
        self.told = []

    def on_ack(self, count, flight, now):
        self.told.append(("ack", count, flight, now))

    def on_loss(self, flight, now):
        self.told.append(("loss", flight, now))

    def on_expiry(self, flight, now):
        self.told.append(("expiry", flight, now))

    def on_sample(self, ticks):
        self.told.append(("sample", ticks))


def flying(count, now=0, closed=False, piece=4, **choices):
    """An open connection with so many bytes in flight, in pieces of 4, whose control keeps what it is told."""
    connection = opened(now, window=200, piece=piece, outbox=200, join=False, **choices)
    connection.control = Told()
    if count > 0:
        connection.write([offset % 256 for offset in range(1, count + 1)], now)
    if closed:
        connection.close(now)
    connection.drain()
    return connection


def hold(connection):
    """Shut the peer's window, whatever it tells, so that what is lost can be looked at."""
    connection.peer_edge = 0
    connection.update_seq = 9


class WindowTest(unittest.TestCase):
    def check(self, connection, segment, told):
        before = (connection.peer_edge, connection.update_seq, connection.update_ack, connection.greatest)
        connection.deliver(segment, 1)
        after = (connection.peer_edge, connection.update_seq, connection.update_ack, connection.greatest)
        self.assertEqual(after, before if told is None else told)

    def test_a_later_seq_tells_anew(self):
        connection = flying(8)
        self.check(connection, numbers(5, 1, window=50), (51, 5, 1, 200))
        self.check(connection, numbers(4, 1, window=60), None)
        self.check(connection, numbers(5, 1, window=40), (41, 5, 1, 200))
        self.check(connection, numbers(6, 1, window=300), (301, 6, 1, 300))

    def test_an_equal_seq_and_a_later_ack(self):
        connection = flying(8)
        self.check(connection, numbers(1, 5, window=50), (55, 1, 5, 200))
        self.check(connection, numbers(1, 4, window=60), None)
        self.check(connection, numbers(1, 9, window=40), (49, 1, 9, 200))

    def test_a_later_seq_with_an_ack_below_una(self):
        connection = flying(8)
        connection.deliver(numbers(1, 5, window=50), 1)
        self.check(connection, numbers(9, 4, window=60), None)

    def test_an_earlier_ack_than_that_of_the_window(self):
        connection = flying(8)
        connection.update_ack = 9
        self.check(connection, numbers(0, 5, window=60), None)
        self.assertEqual(connection.una, 5)

    def test_the_first_segment_at_the_offset_0(self):
        connection = answering(segment=call(window=20))
        self.check(connection, numbers(0, 1, window=30), (31, 0, 1, 30))

    def test_a_shut_window_takes_back_the_attempts(self):
        for window, attempts in ((0, 0), (1, 3)):
            connection = flying(8)
            connection.attempts = 3
            connection.deliver(numbers(1, 1, window=window), 1)
            self.assertEqual(connection.attempts, attempts)

    def test_an_edge_above_una_keeps_the_attempts(self):
        connection = flying(8)
        connection.attempts = 3
        connection.deliver(numbers(1, 1, window=4), 1)
        self.assertEqual((connection.attempts, connection.peer_edge), (3, 5))
        connection.deliver(numbers(2, 1, window=0), 1)
        self.assertEqual((connection.attempts, connection.peer_edge), (0, 1))

    def test_a_window_that_is_not_told_anew_keeps_the_attempts(self):
        connection = flying(8)
        connection.update_seq = 5
        connection.peer_edge = 0
        connection.attempts = 3
        connection.deliver(numbers(1, 1, window=0), 1)
        self.assertEqual(connection.attempts, 3)


class ProgressTest(unittest.TestCase):
    def test_progress(self):
        connection = flying(12)
        connection.sacked.put(9, 13)
        connection.lost.put(4, 6)
        connection.resent.put(2, 8)
        connection.attempts, connection.repeats, connection.peer_edge = 3, 2, 1
        connection.update_seq = 5
        connection.alarms.arm("resend", 70)
        connection.deliver(numbers(1, 5), 1)
        self.assertEqual((connection.una, connection.outbox.base, connection.confirmed), (5, 5, 4))
        self.assertEqual((connection.sacked, connection.lost, connection.resent),
                         (Spans((9, 13)), Spans((5, 6)), Spans((5, 8))))
        self.assertEqual((connection.attempts, connection.repeats), (0, 0))
        # It was disarmed and is armed anew by settling, after the timeout of a sample of 0 and one of 1.
        self.assertEqual(connection.alarms.when("resend"), 1 + connection.estimate.timeout)

    def test_no_progress(self):
        connection = flying(12)
        connection.deliver(numbers(1, 5), 1)
        connection.attempts, connection.repeats = 3, 1
        when = connection.alarms.when("resend")
        told = list(connection.control.told)
        for ack in (5, 4, 1, -3):
            connection.deliver(numbers(1, ack, data=()), 2)
            self.assertEqual((connection.una, connection.attempts, connection.alarms.when("resend")), (5, 3, when))
        self.assertEqual((connection.control.told, connection.repeats), (told, 2))

    def test_the_finish(self):
        connection = flying(6, closed=True)
        self.assertEqual(connection.top, 8)
        connection.deliver(numbers(1, 8), 1)
        self.assertEqual((connection.una, connection.flight), (8, 0))
        self.assertEqual((connection.outbox.base, connection.outbox.end), (7, 7))

    def test_samples(self):
        connection = flying(12, now=10)
        self.assertEqual((connection.timed_end, connection.timed_at), (5, 10))
        connection.deliver(numbers(1, 4), 13)
        self.assertEqual((connection.timed_end, connection.timed_at, connection.estimate.samples), (5, 10, 1))
        connection.deliver(numbers(1, 5), 15)
        self.assertEqual((connection.timed_end, connection.timed_at, connection.estimate.samples), (None, None, 2))
        self.assertEqual((connection.estimate.smooth, connection.control.told[1]), (5, ("sample", 5)))
        connection.deliver(numbers(1, 9), 17)
        self.assertEqual(connection.estimate.samples, 2)

    def test_an_ack_beyond_what_is_measured(self):
        connection = flying(12)
        connection.deliver(numbers(1, 13), 7)
        self.assertEqual((connection.timed_end, connection.control.told), (None, [("sample", 7), ("ack", 12, 0, 7)]))

    def test_the_recovery_ends(self):
        for ack, recover in ((8, 9), (9, None), (10, None)):
            connection = flying(12)
            connection.recover = 9
            connection.deliver(numbers(1, ack), 1)
            self.assertEqual(connection.recover, recover)

    def test_the_control_is_told(self):
        connection = flying(12)
        connection.deliver(numbers(1, 5), 1)
        connection.deliver(numbers(1, 8, blocks=[(9, 11)]), 2)
        connection.deliver(numbers(1, 13), 3)
        self.assertEqual([row for row in connection.control.told if row[0] == "ack"],
                         [("ack", 4, 8, 1), ("ack", 3, 3, 2), ("ack", 5, 0, 3)])

    def test_a_single_byte_counts(self):
        connection = flying(12)
        connection.deliver(numbers(1, 2), 1)
        self.assertEqual(connection.control.told, [("ack", 1, 11, 1)])

    def test_the_opening_does_not_count(self):
        connection = answering()
        connection.control = Told()
        connection.deliver(numbers(1, 1), 1)
        self.assertEqual((connection.una, connection.control.told), (1, [("sample", 1)]))

    def test_many_bytes_at_once(self):
        connection = opened(size=4294967296, inbox=64, outbox=65535, piece=1400, join=False)
        connection.control = Told()
        connection.outbox.put([7] * 65535)
        connection.outbox.shut()
        connection.top = 65537
        connection.deliver(numbers(1, 65537, size=4294967296), 1)
        self.assertEqual(connection.control.told, [("ack", 65535, 0, 1)])

    def test_in_a_recovery_the_control_is_not_told(self):
        connection = flying(12)
        connection.recover = 13
        hold(connection)
        connection.deliver(numbers(1, 3), 1)
        self.assertEqual(connection.control.told, [])
        self.assertEqual((connection.lost, connection.recover), (Spans((3, 7)), 13))

    def test_the_first_piece_in_a_recovery_is_suspect(self):
        connection = flying(12)
        connection.recover = 13
        connection.deliver(numbers(1, 11), 1)
        self.assertEqual(connection.resent, Spans((11, 13)))
        self.assertEqual(sent(connection), [("A", 11, 13, 1)])
        connection.deliver(numbers(1, 13), 1)
        self.assertEqual((connection.recover, sent(connection)), (None, []))
        self.assertEqual(connection.control.told, [("sample", 1), ("ack", 2, 0, 1)])


class BlocksTest(unittest.TestCase):
    def test_blocks(self):
        connection = flying(12)
        connection.lost.put(5, 9)
        hold(connection)
        connection.deliver(numbers(1, 1, blocks=[(3, 5), (7, 8), (12, 13)]), 1)
        self.assertEqual((connection.sacked, connection.lost), (Spans((3, 5), (7, 8), (12, 13)), Spans((5, 7), (8, 9))))
        self.assertEqual(connection.flight, 5)

    def test_other_blocks_are_ignored(self):
        for block in ((0, 5), (4, 4), (5, 4), (4, 14), (13, 14), (13, 13), (-5, 3), (14, 20)):
            connection = flying(12)
            connection.deliver(numbers(1, 1, blocks=[block, (7, 9)]), 1)
            self.assertEqual(connection.sacked, Spans((7, 9)))

    def test_the_ends_of_what_is_in_flight(self):
        connection = flying(12)
        connection.deliver(numbers(1, 1, blocks=[(1, 2), (12, 13)]), 1)
        self.assertEqual(connection.sacked, Spans((1, 2), (12, 13)))

    def test_blocks_are_compared_with_the_moved_una(self):
        connection = flying(12)
        connection.deliver(numbers(1, 6, blocks=[(5, 8), (6, 7)]), 1)
        self.assertEqual(connection.sacked, Spans((6, 7)))

    def test_blocks_count_without_tell(self):
        connection = flying(12, tell=False)
        connection.deliver(numbers(1, 1, blocks=[(5, 8)]), 1)
        self.assertEqual(connection.sacked, Spans((5, 8)))


class TrialTest(unittest.TestCase):
    def seeking(self, now=0):
        """A trial of 6 bytes, from 1 to 6, and two pieces of 4."""
        connection = flying(14, now=now, piece=8, seek=True)
        self.assertEqual((connection.trial_low, connection.trial_high, connection.top), (1, 7, 15))
        return connection

    def test_a_trial_that_passes(self):
        connection = self.seeking()
        connection.deliver(numbers(1, 6), 1)
        self.assertEqual((connection.finder.size, connection.trial_low, connection.trial_high), (4, 1, 7))
        connection.deliver(numbers(1, 7), 1)
        self.assertEqual((connection.finder.size, connection.trial_low, connection.trial_high), (6, None, None))

    def test_a_trial_that_is_lost(self):
        connection = self.seeking()
        connection.deliver(numbers(1, 1, window=200, blocks=[(7, 15)]), 1)
        self.assertEqual((connection.trial_low, connection.finder.strikes), (1, 0))
        for _ in range(2):
            connection.deliver(numbers(1, 1, window=200), 1)
        self.assertEqual((connection.repeats, connection.finder.strikes, connection.trial_low), (3, 1, None))
        self.assertEqual(connection.resent, Spans((1, 5)))

    def test_a_loss_behind_the_trial(self):
        connection = self.seeking()
        connection.una, connection.trial_low, connection.trial_high = 7, 11, 15
        connection.repeats = 2
        connection.outbox.release(7)
        connection.deliver(numbers(1, 7, window=194), 1)
        self.assertEqual((connection.resent, connection.trial_low, connection.finder.strikes), (Spans((7, 11)), 11, 0))

    def test_a_trial_that_passed_gives_the_suspects_its_size(self):
        connection = self.seeking()
        connection.recover = 15
        connection.deliver(numbers(1, 7), 1)
        self.assertEqual(connection.resent, Spans((7, 13)))


class RepeatsTest(unittest.TestCase):
    def test_the_third_repetition_tells_of_a_loss(self):
        connection = flying(12)
        for repeats in (1, 2):
            connection.deliver(numbers(1, 1, window=200), repeats)
            self.assertEqual((connection.repeats, connection.drain(), connection.control.told), (repeats, [], []))
        connection.deliver(numbers(1, 1, window=200), 3)
        self.assertEqual((connection.repeats, connection.recover), (3, 13))
        self.assertEqual(connection.control.told, [("loss", 12, 3)])
        self.assertEqual((sent(connection), connection.resent), ([("A", 1, 5, 1)], Spans((1, 5))))
        connection.deliver(numbers(1, 1, window=200), 4)
        self.assertEqual((connection.repeats, connection.drain(), len(connection.control.told)), (4, [], 1))

    def test_what_does_not_repeat(self):
        connection = flying(12)
        connection.deliver(numbers(1, 5, window=200), 1)
        for segment in (
            numbers(1, 4, window=196), numbers(1, 5, window=200, data=(1,)), numbers(2, 5, window=200, flags="AF"),
            numbers(2, 5, window=199), numbers(2, 5, window=200),
        ):
            connection.deliver(segment, 2)
            self.assertEqual(connection.repeats, 0)
        connection.deliver(numbers(2, 5, window=200), 2)
        self.assertEqual(connection.repeats, 1)

    def test_a_window_that_is_not_read_does_not_matter(self):
        connection = flying(12)
        connection.update_seq = 9
        connection.deliver(numbers(1, 1, window=7), 1)
        self.assertEqual(connection.repeats, 1)

    def test_nothing_repeats_without_a_flight(self):
        connection = flying(0)
        connection.deliver(numbers(1, 1, window=200), 1)
        self.assertEqual(connection.repeats, 0)

    def test_the_first_piece_may_be_short(self):
        connection = flying(2, closed=True)
        connection.repeats = 2
        connection.deliver(numbers(1, 1, window=200), 1)
        self.assertEqual((connection.resent, sent(connection)), (Spans((1, 4)), [("AF", 1, 4, 1)]))

    def test_what_was_stored_is_not_lost(self):
        connection = flying(12)
        connection.repeats = 2
        connection.deliver(numbers(1, 1, window=200, blocks=[(2, 4)]), 1)
        self.assertEqual(sent(connection), [("A", 1, 2, 1), ("A", 4, 5, 1)])
        self.assertEqual((connection.resent, connection.control.told), (Spans((1, 2), (4, 5)), [("loss", 10, 1)]))


class SackedTest(unittest.TestCase):
    def test_three_stored_pieces_behind_a_gap(self):
        connection = flying(24)
        connection.deliver(numbers(1, 1, window=200, blocks=[(5, 16)]), 1)
        self.assertEqual((connection.drain(), connection.recover), ([], None))
        connection.deliver(numbers(1, 1, window=200, blocks=[(5, 17)]), 2)
        self.assertEqual(sent(connection), [("A", 1, 5, 1)])
        self.assertEqual((connection.recover, connection.control.told), (25, [("loss", 12, 2)]))

    def test_all_that_lies_below_is_suspect(self):
        connection = flying(40)
        connection.deliver(numbers(1, 1, window=200, blocks=[(3, 5), (20, 24), (30, 40)]), 1)
        # Twelve stored offsets from 22 on.
        rows = [(low, high) for _, low, high, _ in sent(connection)]
        self.assertEqual(rows, [(1, 3), (5, 9), (9, 13), (13, 17), (17, 20)])
        self.assertEqual(connection.resent, Spans((1, 3), (5, 20)))
        connection.deliver(numbers(1, 1, window=200, blocks=[(30, 41)]), 2)
        self.assertEqual(sent(connection), [])
        # Eleven from 30 on and 23 itself led up to 23; now the twelfth is 28.
        connection.deliver(numbers(1, 1, window=200, blocks=[(28, 29)]), 3)
        self.assertEqual(sent(connection), [("A", 24, 28, 1)])

    def test_resent_offsets_are_not_lost_again(self):
        connection = flying(24)
        connection.deliver(numbers(1, 1, window=200, blocks=[(5, 17)]), 1)
        connection.drain()
        for now in range(2, 9):
            connection.deliver(numbers(1, 1, window=200, blocks=[(5, 24)]), now)
        self.assertEqual((connection.drain(), len(connection.control.told)), ([], 1))

    def test_the_control_is_told_once_in_a_recovery(self):
        connection = flying(40)
        connection.deliver(numbers(1, 1, window=200, blocks=[(5, 17)]), 1)
        connection.drain()
        connection.deliver(numbers(1, 1, window=200, blocks=[(25, 37)]), 2)
        # Of 24 stored offsets the highest twelve begin at 25, and what lies between is lost as well.
        self.assertEqual(sent(connection), [("A", 17, 21, 1), ("A", 21, 25, 1)])
        self.assertEqual(connection.control.told, [("loss", 28, 1)])

    def test_the_flight_before_the_loss(self):
        connection = flying(24)
        connection.control.window = 4
        connection.lost.put(3, 5)
        connection.peer_edge = 1
        connection.update_seq = 9
        connection.deliver(numbers(1, 1, blocks=[(5, 17)]), 1)
        self.assertEqual(connection.control.told, [("loss", 10, 1)])
        self.assertEqual((connection.lost, connection.flight), (Spans((1, 5)), 8))

    def test_nothing_is_suspect_when_all_is_acknowledged(self):
        connection = flying(24)
        connection.deliver(numbers(1, 25, window=200), 1)
        connection.sacked.put(30, 60)
        connection.deliver(numbers(1, 25, window=200), 1)
        self.assertEqual((connection.lost, connection.recover), (Spans(), None))

    def test_progress_and_stored_pieces(self):
        connection = flying(40)
        connection.deliver(numbers(1, 5, window=200, blocks=[(9, 21)]), 1)
        self.assertEqual(connection.control.told, [("sample", 1), ("ack", 4, 24, 1), ("loss", 24, 1)])
        self.assertEqual((sent(connection), connection.recover), ([("A", 5, 9, 1)], 41))


if __name__ == "__main__":
    unittest.main()
