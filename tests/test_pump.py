"""lossway.connection: promises 42, 45 and 46, the pace and the pump."""

import unittest

from lossway.spans import Spans
from tests.ends import answering, numbers, opened, opening, sent


def loaded(count, *, window=64, closed=False, lost=(), top=1, limit=200, **choices):
    """An open connection with written bytes of which those below top were sent, with a window for two pieces."""
    connection = opened(window=window, outbox=limit, **choices)
    connection.outbox.put([offset % 256 for offset in range(1, count + 1)])
    if closed:
        connection.outbox.shut()
    connection.top = top
    for low, high in lost:
        connection.lost.put(low, high)
    return connection


def pumped(connection, now=1):
    """What a method sends that does nothing but pump, as (flags, low, high)."""
    connection.tick(now)
    return [row[:3] for row in sent(connection)]


class LostTest(unittest.TestCase):
    def test_a_lost_opening(self):
        connection = opening()
        connection.drain()
        connection.lost.put(0, 1)
        self.assertEqual(pumped(connection), [("S", 0, 1)])
        self.assertEqual((connection.lost, connection.resent), (Spans(), Spans()))
        self.assertEqual((connection.timed_end, connection.timed_at, connection.top), (None, None, 1))

    def test_only_the_opening_is_sent_before_the_connection_is_open(self):
        connection = answering()
        connection.outbox.put([1, 2, 3])
        connection.drain()
        connection.top = 4
        connection.lost.put(0, 4)
        self.assertEqual(pumped(connection), [("SA", 0, 1)])
        self.assertEqual((connection.lost, connection.resent), (Spans((1, 4)), Spans()))

    def test_lost_bytes_are_sent_in_pieces(self):
        connection = loaded(20, top=21, lost=[(1, 21)])
        self.assertEqual(pumped(connection), [("A", 1, 9), ("A", 9, 17)])
        self.assertEqual((connection.lost, connection.resent), (Spans((17, 21)), Spans((1, 17))))
        self.assertEqual((connection.flight, connection.top), (16, 21))

    def test_the_bytes_are_the_same(self):
        connection = loaded(12, top=13, lost=[(3, 5), (7, 13)])
        connection.control.window = 99
        connection.tick(1)
        self.assertEqual([segment.data for segment in connection.drain()], [(3, 4), (7, 8, 9, 10, 11, 12)])
        self.assertEqual(connection.resent, Spans((3, 5), (7, 13)))

    def test_the_size_is_that_of_the_finder(self):
        connection = loaded(12, top=13, lost=[(1, 13)])
        connection.finder.size = 5
        connection.control.window = 99
        self.assertEqual(pumped(connection), [("A", 1, 6), ("A", 6, 11), ("A", 11, 13)])

    def test_each_sending_ends_the_measurement(self):
        connection = loaded(12, top=13, lost=[(1, 3)])
        connection.timed_end, connection.timed_at = 13, 0
        pumped(connection)
        self.assertEqual((connection.timed_end, connection.timed_at), (None, None))
        connection = loaded(12, top=13, lost=[(1, 3)], window=0)
        connection.timed_end, connection.timed_at = 13, 0
        self.assertEqual(pumped(connection), [])
        self.assertEqual((connection.timed_end, connection.timed_at), (13, 0))

    def test_the_peer_edge(self):
        for edge, wanted in ((20, [("A", 1, 9), ("A", 9, 13)]), (12, [("A", 1, 9), ("A", 9, 12)]), (9, [("A", 1, 9)]),
                             (8, [("A", 1, 8)]), (2, [("A", 1, 2)]), (1, []), (0, [])):
            connection = loaded(12, top=13, lost=[(1, 13)], join=False)
            connection.peer_edge = edge
            self.assertEqual(pumped(connection), wanted, edge)

    def test_new_bytes_wait_for_lost_ones(self):
        connection = loaded(20, top=13, lost=[(5, 13)], window=4)
        connection.una = 5
        connection.outbox.release(5)
        self.assertEqual(pumped(connection), [])
        connection.peer_edge = 65
        self.assertEqual(pumped(connection, 2), [("A", 5, 13), ("A", 13, 21)])

    def test_a_finish_waits_for_lost_bytes_that_do_not_fit(self):
        connection = loaded(24, top=25, closed=True, lost=[(1, 9)])
        connection.control.window = 23
        self.assertEqual(pumped(connection), [])
        connection.control.window = 24
        self.assertEqual(pumped(connection), [("A", 1, 9)])
        connection.control.window = 25
        self.assertEqual(pumped(connection), [("AF", 25, 26)])

    def test_the_control_holds_lost_bytes(self):
        for window, wanted in ((16, [("A", 9, 17), ("A", 17, 25)]), (15, [("A", 9, 17)]), (8, [("A", 9, 17)]),
                               (7, [("A", 9, 17)])):
            connection = loaded(24, top=25, lost=[(9, 25)])
            connection.una = 9
            connection.outbox.release(9)
            connection.control.window = window
            self.assertEqual(pumped(connection), wanted)
        for window, wanted in ((16, [("A", 9, 17)]), (15, []), (1, [])):
            connection = loaded(24, top=25, lost=[(9, 25)])
            connection.control.window = window
            self.assertEqual(pumped(connection), wanted)

    def test_a_lost_finish_alone(self):
        for edge in (0, 5, 64):
            connection = loaded(8, top=10, closed=True, lost=[(9, 10)])
            connection.peer_edge = edge
            self.assertEqual(pumped(connection), [("AF", 9, 10)])
            self.assertEqual((connection.lost, connection.resent, connection.top), (Spans(), Spans((9, 10)), 10))

    def test_a_lost_finish_goes_along(self):
        connection = loaded(8, top=10, closed=True, lost=[(5, 10)])
        self.assertEqual(pumped(connection), [("AF", 5, 10)])
        connection = loaded(8, top=10, closed=True, lost=[(1, 10)])
        self.assertEqual(pumped(connection), [("AF", 1, 10)])
        connection = loaded(9, top=11, closed=True, lost=[(1, 11)])
        self.assertEqual(pumped(connection), [("A", 1, 9), ("AF", 9, 11)])

    def test_a_finish_that_is_not_lost_does_not_go_along(self):
        connection = loaded(8, top=10, closed=True, lost=[(5, 9)])
        self.assertEqual(pumped(connection), [("A", 5, 9)])

    def test_a_finish_does_not_go_along_with_cut_bytes(self):
        connection = loaded(8, top=10, closed=True, lost=[(5, 10)], join=False)
        connection.peer_edge = 8
        self.assertEqual(pumped(connection), [("A", 5, 8)])
        self.assertEqual(connection.lost, Spans((8, 10)))

    def test_the_finish_counts_for_the_control(self):
        for window, wanted in ((13, [("AF", 5, 14)]), (12, [])):
            connection = loaded(12, top=14, closed=True, lost=[(5, 14)])
            connection.control.window = window
            self.assertEqual(pumped(connection), wanted)
        # A lone segment is sent whatever the window.
        connection = loaded(12, top=14, closed=True, lost=[(5, 14)])
        connection.sacked.put(1, 5)
        connection.control.window = 1
        self.assertEqual(pumped(connection), [("AF", 5, 14)])

    def test_what_was_stored_is_not_in_flight(self):
        connection = loaded(24, top=25, lost=[(1, 9)])
        connection.sacked.put(9, 17)
        connection.control.window = 16
        self.assertEqual(connection.flight, 8)
        self.assertEqual(pumped(connection), [("A", 1, 9)])
        self.assertEqual(connection.flight, 16)


class NewTest(unittest.TestCase):
    def test_new_bytes_are_sent_in_pieces(self):
        connection = loaded(40)
        self.assertEqual(pumped(connection, 3), [("A", 1, 9), ("A", 9, 17)])
        self.assertEqual((connection.top, connection.flight), (17, 16))
        self.assertEqual((connection.timed_end, connection.timed_at), (9, 3))
        self.assertEqual(connection.resent, Spans())

    def test_nothing_is_sent_before_the_connection_is_open(self):
        for connection in (opening(), answering()):
            connection.drain()
            connection.write([1] * 20, 1)
            connection.close(1)
            self.assertEqual(connection.drain(), [])
            self.assertEqual(connection.top, 1)

    def test_a_running_measurement_goes_on(self):
        connection = loaded(40)
        connection.timed_end, connection.timed_at = 1, 0
        pumped(connection, 3)
        self.assertEqual((connection.timed_end, connection.timed_at), (1, 0))

    def test_the_control(self):
        for window, wanted in ((24, 3), (23, 2), (16, 2), (15, 1), (8, 1), (7, 1), (1, 1)):
            connection = loaded(60)
            connection.control.window = window
            self.assertEqual(len(pumped(connection)), wanted)
            self.assertEqual(connection.flight, 8 * wanted)

    def test_the_peer_edge(self):
        for edge, wanted in ((41, [("A", 1, 9), ("A", 9, 17)]), (17, [("A", 1, 9), ("A", 9, 17)]), (9, [("A", 1, 9)]),
                             (1, []), (0, []), (-5, [])):
            connection = loaded(40)
            connection.peer_edge = edge
            self.assertEqual(pumped(connection), wanted)

    def test_a_small_piece_at_the_peer_edge(self):
        # The first piece is never held, as nothing is on its way; then 2 * count is compared with greatest.
        both = [("A", 1, 9), ("A", 9, 12)]
        for edge, greatest, wanted in ((4, 64, [("A", 1, 4)]), (12, 7, both[:1]), (12, 6, both), (12, 5, both)):
            connection = loaded(40)
            connection.peer_edge = edge
            connection.greatest = greatest
            self.assertEqual(pumped(connection), wanted)

    def test_small_pieces_at_the_edge_do_not_care_for_join(self):
        for join in (True, False):
            for urgent in (0, 41):
                for closed in (True, False):
                    connection = loaded(40, join=join, closed=closed)
                    connection.outbox.urgent_end = urgent
                    connection.peer_edge = 12
                    self.assertEqual(len(pumped(connection)), 1)

    def test_a_small_last_piece_is_held(self):
        connection = loaded(12)
        self.assertEqual(pumped(connection), [("A", 1, 9)])
        connection.deliver(numbers(1, 9), 2)
        self.assertEqual(sent(connection), [("A", 9, 13, 1)])

    def test_a_small_last_piece_is_not_held(self):
        self.assertEqual(pumped(loaded(4)), [("A", 1, 5)])
        self.assertEqual(pumped(loaded(12, join=False)), [("A", 1, 9), ("A", 9, 13)])
        self.assertEqual(pumped(loaded(12, closed=True)), [("A", 1, 9), ("AF", 9, 14)])
        connection = loaded(12)
        connection.outbox.urgent_end = 10
        self.assertEqual([row[1:] for row in pumped(connection)], [(1, 9), (9, 13)])
        connection.outbox.put([1] * 3)
        connection.outbox.urgent_end = 13
        self.assertEqual(pumped(connection), [])
        connection.outbox.urgent_end = 14
        connection.control.window = 99
        self.assertEqual(pumped(connection), [("AU", 13, 16)])

    def test_urgent_bytes_that_were_sent_do_not_help(self):
        connection = loaded(12)
        connection.outbox.urgent_end = 9
        self.assertEqual(pumped(connection), [("AU", 1, 9)])

    def test_the_finish_goes_along(self):
        connection = loaded(8, closed=True)
        self.assertEqual(pumped(connection), [("AF", 1, 10)])
        self.assertEqual((connection.top, connection.timed_end, connection.flight), (10, 10, 9))
        self.assertEqual(pumped(loaded(0, closed=True)), [("AF", 1, 2)])

    def test_a_finish_that_does_not_fit(self):
        connection = loaded(16, closed=True)
        connection.control.window = 16
        self.assertEqual(pumped(connection), [("A", 1, 9)])
        connection.control.window = 17
        self.assertEqual(pumped(connection), [("AF", 9, 18)])

    def test_neither_edge_nor_pace_holds_the_finish(self):
        connection = loaded(0, closed=True, window=0)
        self.assertEqual(pumped(connection), [("AF", 1, 2)])
        connection = loaded(16, closed=True, top=17, size=64, inbox=16)
        connection.peer_edge = 5
        connection.control.window = 99
        self.assertEqual(pumped(connection), [("AF", 17, 18)])
        connection = loaded(17, closed=True, top=17, size=64, inbox=16)
        connection.control.window = 99
        connection.peer_edge = 17
        self.assertEqual(pumped(connection), [])

    def test_rests(self):
        connection = loaded(3, closed=True)
        pumped(connection)
        self.assertIs(connection.rests, True)
        connection = loaded(3, closed=True)
        connection.inbox.finish(1)
        pumped(connection)
        self.assertIs(connection.rests, False)
        connection = loaded(30, closed=True)
        pumped(connection)
        self.assertIs(connection.rests, False)

    def test_a_finish_that_is_sent_again_does_not_set_rests(self):
        connection = loaded(8, top=10, closed=True, lost=[(5, 10)])
        pumped(connection)
        self.assertIs(connection.rests, False)


class TrialTest(unittest.TestCase):
    def seeking(self, count, **choices):
        # The finder begins with 4 and 8, so that the first trial has 6 bytes.
        connection = loaded(count, seek=True, **choices)
        connection.control.window = 99
        return connection

    def test_a_trial(self):
        connection = self.seeking(14)
        self.assertEqual(pumped(connection), [("A", 1, 7), ("A", 7, 11), ("A", 11, 15)])
        self.assertEqual((connection.trial_low, connection.trial_high), (1, 7))

    def test_too_few_bytes_for_a_trial(self):
        connection = self.seeking(5, join=False)
        self.assertEqual(pumped(connection), [("A", 1, 5), ("A", 5, 6)])
        self.assertIsNone(connection.trial_low)
        self.assertEqual(pumped(self.seeking(6)), [("A", 1, 7)])

    def test_too_little_room_for_a_trial(self):
        connection = self.seeking(40)
        connection.peer_edge = 6
        self.assertEqual(pumped(connection), [("A", 1, 5)])
        connection = self.seeking(40)
        connection.peer_edge = 7
        self.assertEqual(pumped(connection), [("A", 1, 7)])
        connection = self.seeking(40, size=64, inbox=16)
        connection.older = -10
        self.assertEqual(pumped(connection), [("A", 1, 5)])
        self.assertIsNone(connection.trial_low)

    def test_no_trial_in_a_recovery(self):
        connection = self.seeking(8)
        connection.recover = 5
        self.assertEqual(pumped(connection), [("A", 1, 5), ("A", 5, 9)])
        self.assertIsNone(connection.trial_low)

    def test_no_second_trial(self):
        connection = self.seeking(14)
        connection.trial_low, connection.trial_high = 0, 1
        self.assertEqual(pumped(connection), [("A", 1, 5), ("A", 5, 9), ("A", 9, 13)])
        self.assertEqual((connection.trial_low, connection.trial_high), (0, 1))

    def test_no_trial_without_a_search(self):
        connection = loaded(8)
        self.assertEqual(pumped(connection), [("A", 1, 9)])
        self.assertEqual((connection.trial_low, connection.trial_high), (None, None))

    def test_the_control_holds_a_trial(self):
        connection = self.seeking(20)
        connection.control.window = 9
        connection.trial_low, connection.trial_high = 0, 1
        self.assertEqual(pumped(connection), [("A", 1, 5), ("A", 5, 9)])
        connection.trial_low = connection.trial_high = None
        # Now 8 are in flight: the trial of 6 does not fit, and the pump ends, though nothing else would fit either.
        connection.control.window = 13
        self.assertEqual(pumped(connection), [])
        connection.control.window = 14
        self.assertEqual(pumped(connection), [("A", 9, 15)])
        self.assertEqual((connection.trial_low, connection.trial_high), (9, 15))

    def test_a_lone_trial_may_be_wider_than_the_window(self):
        connection = self.seeking(20)
        connection.control.window = 5
        self.assertEqual(pumped(connection), [("A", 1, 7)])

    def test_the_ends_of_a_trial_are_those_of_its_bytes(self):
        connection = self.seeking(6, closed=True)
        self.assertEqual(pumped(connection), [("AF", 1, 8)])
        self.assertEqual((connection.trial_low, connection.trial_high, connection.timed_end), (1, 7, 8))


class PaceTest(unittest.TestCase):
    def test_the_limit(self):
        connection = loaded(40, size=64, inbox=16)
        connection.control.window = 99
        # A quarter of the ring of 64 lies below the limit of older + 16.
        self.assertEqual(pumped(connection), [("A", 1, 9)])
        connection.greatest = 14
        self.assertEqual(pumped(connection), [("A", 9, 16)])
        self.assertEqual((connection.top, connection.alarms.when("pace")), (16, 9))
        connection.older = 8
        self.assertEqual(pumped(connection), [("A", 16, 24)])

    def test_lost_bytes_do_not_care_for_the_pace(self):
        connection = loaded(20, size=64, inbox=16, top=21, lost=[(12, 21)])
        connection.control.window = 99
        self.assertEqual(pumped(connection), [("A", 12, 20), ("A", 20, 21)])

    def test_rolling_by_one_period(self):
        connection = opened(life=8)
        connection.una = connection.top = 30
        connection.newer, connection.older = 20, 10
        connection.outbox.base = connection.outbox.end = 30
        for now, wanted in ((0, (0, 10, 20)), (8, (0, 10, 20)), (9, (1, 20, 30)), (17, (1, 20, 30)), (18, (2, 30, 30))):
            connection.tick(now)
            self.assertEqual((connection.period, connection.older, connection.newer), wanted)

    def test_rolling_by_several_periods(self):
        for now, period in ((18, 2), (26, 2), (27, 3), (900, 100)):
            connection = opened(life=8)
            connection.una = connection.top = 30
            connection.newer, connection.older = 20, 10
            connection.outbox.base = connection.outbox.end = 30
            connection.tick(now)
            self.assertEqual((connection.period, connection.older, connection.newer), (period, 30, 30))

    def test_rolling_comes_before_everything_else(self):
        connection = loaded(40)
        pumped(connection)
        self.assertEqual(connection.una, 1)
        connection.deliver(numbers(1, 17), 9)
        self.assertEqual((connection.una, connection.period, connection.older, connection.newer), (17, 1, 0, 1))

    def test_bytes_follow_with_the_periods(self):
        connection = loaded(100, size=64, inbox=16, join=False)
        connection.control.window = 99
        found = []
        for now in range(1, 60):
            connection.deliver(numbers(1, connection.top, size=64), now)
            found += [(now, high) for _, _, high in pumped(connection, now)]
            self.assertLessEqual(connection.top, connection.older + 16)
        # What is acknowledged when a period of 9 ticks begins opens the way when the next one begins.
        self.assertEqual(found, [(1, 9), (2, 16), (18, 24), (18, 32), (36, 40), (36, 48), (54, 56), (54, 64)])


class FlightTest(unittest.TestCase):
    def test_flight(self):
        connection = loaded(30, top=31)
        self.assertEqual(connection.flight, 30)
        connection.sacked.put(5, 9)
        connection.lost.put(20, 21)
        self.assertEqual(connection.flight, 25)
        connection.una = 3
        self.assertEqual(connection.flight, 23)

    def test_confirmed_and_at_end(self):
        connection = loaded(30, top=31)
        self.assertEqual(connection.confirmed, 0)
        connection.deliver(numbers(1, 12, flags="AF", data=(7, 8)), 1)
        self.assertEqual((connection.confirmed, connection.at_end), (11, False))
        connection.read(1, 1)
        self.assertIs(connection.at_end, False)
        connection.read(1, 1)
        self.assertIs(connection.at_end, True)


if __name__ == "__main__":
    unittest.main()
