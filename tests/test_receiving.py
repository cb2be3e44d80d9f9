"""lossway.connection: promises 47 and 49, the segments that a connection accepts and what it does with them."""

import unittest

from lossway.segments import Segment
from lossway.spans import Spans
from tests.ends import (
    MARK, PEER, PEER_FIRST, SOURCE, TARGET, answer, answering, call, look, news, numbers, opened, opening, own, peer,
    peer_segment, resumed, sent,
)

COOKIE = (1, 2, 3, 4, 5, 6)


def resting(now=0, **choices):
    """A connection that sent its finish first and rests."""
    connection = opened(now, **choices)
    connection.close(now)
    connection.deliver(numbers(1, 2, flags="AF"), now)
    connection.drain()
    assert connection.state == "resting"
    return connection


def done():
    connection = opened()
    connection.deliver(numbers(1, 1, flags="AF"), 0)
    connection.close(0)
    connection.deliver(numbers(2, 2), 0)
    connection.drain()
    assert (connection.state, connection.reason) == ("gone", "done")
    return connection


class AcceptsTest(unittest.TestCase):
    def check(self, connection, segment, wanted):
        before = look(connection)
        self.assertIs(connection.accepts(segment), wanted, str(segment))
        self.assertEqual(look(connection), before)

    def test_the_ports(self):
        for connection in (opened(), answering(), resting(), resumed()):
            segment = numbers()
            self.check(connection, segment, True)
            self.check(connection, segment.changed(source=TARGET + 1), False)
            self.check(connection, segment.changed(target=SOURCE + 1), False)
            self.check(connection, segment.changed(source=SOURCE, target=TARGET), False)
        for segment in (call(), answer(), peer_segment("R", mark=0)):
            self.check(opening(), segment, True)
            self.check(opening(), segment.changed(source=TARGET + 1), False)
            self.check(opening(), segment.changed(target=SOURCE + 1), False)

    def test_a_known_peer(self):
        for connection in (opened(), answering(), resting(), resumed()):
            for flags in ("", "A", "S", "SA", "R", "AR", "AFU", "SAFRU"):
                self.check(connection, peer_segment(flags), True)
                self.check(connection, peer_segment(flags, tag=MARK + 1), False)
                self.check(connection, peer_segment(flags, mark=PEER - 1), False)
                self.check(connection, peer_segment(flags, mark=0), False)
                self.check(connection, peer_segment(flags, tag=0), flags == "S")
                self.check(connection, peer_segment(flags, tag=0, mark=PEER - 1), False)

    def test_an_unknown_peer(self):
        for mark in (0, 5, PEER):
            for flags in ("S", "SA", "A", "", "R", "AR", "SR", "SF", "SAF", "SAR", "SU"):
                connection = opening()
                self.check(connection, peer_segment(flags, tag=0, mark=mark), flags == "S")
                is_reset = "R" in flags and mark == 0
                self.check(connection, peer_segment(flags, mark=mark, ack=own(1)), is_reset or flags == "SA")
                self.check(connection, peer_segment(flags, mark=mark, ack=own(0)), is_reset)
                self.check(connection, peer_segment(flags, mark=mark, tag=MARK + 1, ack=own(1)), False)

    def test_the_ack_must_be_the_number_itself(self):
        connection = opening()
        for ack in (own(1) + 1024, own(1) - 1, own(1) + 1, 0):
            self.check(connection, answer(ack=ack), False)

    def test_gone(self):
        connection = done()
        for segment in (numbers(), call(), answer(), peer_segment("R"), peer_segment("AR")):
            self.check(connection, segment, False)
        connection = opening()
        connection.abort(0)
        for segment in (call(), answer(), peer_segment("R", mark=0)):
            self.check(connection, segment, False)

    def test_what_is_not_accepted_changes_nothing(self):
        for connection in (opening(), answering(), opened(alive=5), resting(), done()):
            connection.unheard = 2
            before = look(connection)
            for segment in (numbers(tag=5), call(mark=5).changed(tag=7), peer_segment("R", mark=5), answer(tag=5)):
                self.assertIs(connection.deliver(segment, 100), False)
            self.assertEqual(look(connection), before)


class DeliverTest(unittest.TestCase):
    def test_what_is_accepted(self):
        connection = opened(alive=50)
        connection.unheard = 3
        self.assertEqual(connection.alarms.when("alive"), 50)
        self.assertIs(connection.deliver(peer_segment(""), 7), True)
        self.assertEqual((connection.unheard, connection.alarms.when("alive")), (0, 57))

    def test_the_least_time_of_alive(self):
        connection = opened(alive=1)
        self.assertEqual(connection.alarms.when("alive"), 1)
        connection.deliver(peer_segment(""), 7)
        self.assertEqual(connection.alarms.when("alive"), 8)

    def test_alive_is_armed_in_an_open_state_alone(self):
        connection = answering(alive=50)
        connection.deliver(peer_segment(""), 7)
        self.assertIsNone(connection.alarms.when("alive"))
        connection = resting(alive=50)
        connection.deliver(numbers(2, 2), 7)
        self.assertIsNone(connection.alarms.when("alive"))
        connection = opened()
        connection.deliver(numbers(), 7)
        self.assertIsNone(connection.alarms.when("alive"))

    def test_an_opening_that_is_answered_arms_alive_by_settling(self):
        connection = opening(alive=50)
        connection.deliver(answer(), 7)
        self.assertEqual(connection.alarms.when("alive"), 57)


class ResetTest(unittest.TestCase):
    def test_resets(self):
        for connection, reason in (
            (opened(), "reset"), (answering(), "reset"), (resting(), "done"), (resumed(), "reset"),
        ):
            connection.drain()
            connection.unheard = 2
            for flags in ("R", "AR", "SAFRU"):
                self.assertIs(connection.accepts(peer_segment(flags)), True)
            before = look(connection)
            self.assertIs(connection.deliver(peer_segment("AFR", ack=own(1), data=(1,)), 3), True)
            self.assertEqual((connection.state, connection.reason, connection.unheard), ("gone", reason, 0))
            self.assertEqual((len(connection.alarms), connection.drain()), (0, []))
            changed = news(before, look(connection))
            self.assertEqual(sorted(set(changed) - {"alarms"}), ["reason", "state", "unheard"])

    def test_a_refused_opening(self):
        connection = opening()
        connection.drain()
        self.assertIs(connection.deliver(Segment(TARGET, SOURCE, tag=MARK, flags="R", seq=9), 3), True)
        self.assertEqual((connection.state, connection.reason), ("gone", "reset"))
        self.assertEqual((connection.drain(), connection.peer_mark, connection.control), ([], None, None))

    def test_the_pace_rolls_before_a_reset(self):
        connection = opened()
        connection.deliver(peer_segment("R"), 20)
        self.assertEqual((connection.period, connection.older), (2, 1))

    def test_nothing_settles_after_a_reset(self):
        connection = opened(delay=9)
        connection.write([1, 2, 3], 0)
        connection.deliver(numbers(1, 1, data=(7,)), 0)
        connection.drain()
        self.assertEqual((connection.owed, connection.flight), (1, 3))
        connection.deliver(peer_segment("R"), 1)
        self.assertEqual((len(connection.alarms), connection.owed, connection.drain()), (0, 1, []))

    def test_the_buffers_stay(self):
        connection = opened()
        connection.write([1, 2, 3], 0)
        connection.deliver(numbers(1, 1, data=(7, 8)), 0)
        connection.deliver(peer_segment("R"), 1)
        self.assertEqual((connection.outbox.cut(1, 4), connection.read(9, 2)), ((1, 2, 3), (7, 8)))


class OpeningStateTest(unittest.TestCase):
    def test_an_answer(self):
        connection = opening(now=2)
        connection.write([1, 2], 2)
        connection.drain()
        self.assertIs(connection.deliver(answer(window=20, piece=6, cookie=COOKIE), 6), True)
        self.assertEqual((connection.state, connection.una, connection.top), ("open", 1, 3))
        self.assertEqual((connection.peer_mark, connection.peer_first, connection.control.unit), (PEER, PEER_FIRST, 6))
        self.assertEqual((connection.estimate.samples, connection.estimate.smooth), (1, 32))
        self.assertEqual(connection.cookie, COOKIE)
        # The bytes carry the acknowledgement, so that none is owed any more.
        self.assertEqual((sent(connection), connection.owed), ([("A", 1, 3, 1)], 0))
        self.assertEqual((connection.timed_end, connection.timed_at), (3, 6))

    def test_an_answer_without_anything_to_send(self):
        connection = opening()
        connection.drain()
        connection.deliver(answer(), 4)
        self.assertEqual((sent(connection), connection.owed), ([("A", 1, 1, 1)], 0))
        self.assertEqual((len(connection.alarms), connection.timed_end), (0, None))
        self.assertEqual((connection.control.window, connection.control.stalled), (16, False))

    def test_the_control_is_told_the_sample(self):
        connection = opening(control="delay")
        connection.deliver(answer(), 4)
        self.assertEqual((connection.control.samples, connection.control.latest), (1, 4))

    def test_an_answer_after_a_repetition_is_no_sample(self):
        connection = opening()
        connection.tick(8)
        self.assertEqual((connection.attempts, connection.timed_end), (1, None))
        connection.deliver(answer(), 9)
        self.assertEqual((connection.attempts, connection.estimate.samples, connection.state), (0, 0, "open"))
        self.assertEqual(connection.alarms.when("resend"), None)

    def test_a_lost_opening_is_acknowledged_by_the_answer(self):
        connection = opening()
        connection.drain()
        connection.lost.put(0, 1)
        connection.deliver(answer(), 9)
        self.assertEqual((connection.lost, sent(connection)), (Spans(), [("A", 1, 1, 1)]))

    def test_a_crossing_opening(self):
        connection = opening(now=2)
        connection.drain()
        connection.deliver(call(window=20, piece=6, cookie=COOKIE), 4)
        self.assertEqual((connection.state, connection.una, connection.cookie), ("answering", 0, ()))
        self.assertEqual((connection.peer_mark, connection.peer_edge, connection.finder.size), (PEER, 21, 6))
        self.assertEqual(sent(connection), [("SA", 0, 1, 1)])
        self.assertEqual((connection.lost, connection.timed_end, connection.owed), (Spans(), None, 0))
        self.assertEqual(connection.alarms.when("resend"), 10)

    def test_openings_that_cross(self):
        connection = opening()
        connection.drain()
        connection.deliver(call(), 1)
        connection.deliver(answer(cookie=COOKIE), 2)
        self.assertEqual((connection.state, connection.una, connection.cookie), ("open", 1, ()))
        self.assertEqual(sent(connection), [("SA", 0, 1, 1), ("A", 1, 1, 1)])


class OpeningSegmentTest(unittest.TestCase):
    def test_an_answer_in_the_state_answering(self):
        connection = answering(segment=call(window=20))
        connection.drain()
        connection.deliver(answer(window=50, piece=3, cookie=COOKIE, seq=peer(9)), 3)
        self.assertEqual((connection.state, connection.una), ("open", 1))
        self.assertEqual(sent(connection), [("A", 1, 1, 1)])
        # Nothing else of the segment is read.
        self.assertEqual((connection.peer_edge, connection.greatest, connection.cookie), (21, 20, ()))
        self.assertEqual((connection.control.unit, connection.peer_first), (8, PEER_FIRST))
        self.assertEqual((connection.estimate.samples, connection.estimate.smooth), (1, 24))

    def test_more_flags_do_not_matter(self):
        connection = answering()
        connection.deliver(peer_segment("SAFU", ack=own(1), data=(1, 2), urgent=5), 3)
        self.assertEqual((connection.state, connection.inbox.next_offset, connection.inbox.final), ("open", 1, None))

    def test_any_other_opening_in_the_state_answering(self):
        for segment in (call(), peer_segment("S"), answer(ack=own(0)), answer(ack=own(2)), answer(ack=own(1) + 1024),
                        peer_segment("SF", ack=own(1))):
            connection = answering()
            connection.drain()
            connection.deliver(segment, 3)
            self.assertEqual((connection.state, connection.una, connection.owed), ("answering", 0, 0))
            self.assertEqual((sent(connection), connection.timed_end), ([("SA", 0, 1, 1)], None))
            self.assertEqual((connection.lost, connection.flight), (Spans(), 1))

    def test_in_the_state_open(self):
        for make in (opened, resumed):
            for segment in (call(), answer(), answer(ack=own(9)), peer_segment("SAFU", data=(1,))):
                connection = make()
                before = look(connection)
                connection.deliver(segment, 3)
                self.assertEqual(sent(connection), [("A", 1, 1, 1)])
                self.assertEqual(look(connection), before)

    def test_a_waiting_acknowledgement_is_due(self):
        connection = opened(delay=9)
        connection.deliver(numbers(1, 1, data=(1,)), 1)
        self.assertEqual((connection.owed, connection.drain()), (1, []))
        connection.deliver(call(), 2)
        self.assertEqual((connection.owed, sent(connection)), (0, [("A", 1, 1, 2)]))

    def test_in_the_state_resting(self):
        connection = resting()
        self.assertEqual(connection.alarms.when("rest"), 64)
        connection.deliver(call(), 7)
        self.assertEqual((connection.state, connection.alarms.when("rest")), ("resting", 71))
        self.assertEqual(sent(connection), [("A", 2, 2, 2)])

    def test_a_cookie_stays_over_openings(self):
        connection = opening()
        connection.deliver(answer(cookie=COOKIE), 1)
        connection.deliver(answer(), 2)
        connection.deliver(peer_segment("U", ack=own(5)), 2)
        self.assertEqual(connection.cookie, COOKIE)


class WithoutAckTest(unittest.TestCase):
    def test_nothing_more_happens(self):
        for connection in (answering(), opened(), resting()):
            connection.drain()
            connection.unheard = 2
            before = look(connection)
            for flags in ("", "F", "U", "FU"):
                self.assertIs(connection.deliver(peer_segment(flags, seq=peer(1), ack=own(1), data=(1,)), 1), True)
            self.assertEqual(news(before, look(connection)), {"unheard": 0})


class AckTest(unittest.TestCase):
    def test_the_first_acknowledgement_opens(self):
        connection = answering(segment=call(window=20))
        connection.drain()
        connection.deliver(numbers(1, 1, window=30, data=(5, 6)), 3)
        self.assertEqual((connection.state, connection.una, connection.peer_edge), ("open", 1, 31))
        self.assertEqual((connection.inbox.ready, connection.owed, connection.estimate.smooth), (2, 1, 24))
        self.assertEqual((connection.drain(), connection.alarms.when("delay")), ([], 4))

    def test_other_acknowledgements_do_not(self):
        for ack, seq in ((0, 1), (2, 1), (1, -1), (-5, 1)):
            connection = answering()
            connection.drain()
            before = look(connection)
            connection.deliver(numbers(seq, ack, window=30, data=(5, 6)), 1)
            self.assertEqual(look(connection), before)
        connection = answering()
        connection.deliver(numbers(0, 1, window=30), 1)
        self.assertEqual((connection.state, connection.inbox.next_offset), ("open", 1))

    def test_the_cookie_ends(self):
        for segment in (numbers(), numbers(1, 9), numbers(-1, 1), numbers(1, -3)):
            connection = opening()
            connection.deliver(answer(cookie=COOKIE), 1)
            connection.drain()
            connection.deliver(segment, 2)
            self.assertEqual(connection.cookie, ())
            connection.write([1], 3)
            self.assertEqual({segment.cookie for segment in connection.drain()}, {()})

    def test_an_ack_above_top_and_a_seq_below_0(self):
        for ack, seq in ((5, 1), (100, 1), (1, -1), (1, -300), (5, -1)):
            connection = opened()
            connection.write([1, 2, 3], 1)
            connection.drain()
            before = look(connection)
            connection.deliver(numbers(seq, ack, window=9, data=(5, 6), blocks=[(2, 3)]), 2)
            self.assertEqual(sent(connection), [("A", 4, 4, 1)])
            self.assertEqual(look(connection), before)

    def test_in_the_state_resting_such_a_segment_does_not_rest_anew(self):
        for ack, seq in ((3, 1), (2, -1)):
            connection = resting()
            connection.deliver(numbers(seq, ack), 7)
            self.assertEqual((connection.alarms.when("rest"), sent(connection)), (64, [("A", 2, 2, 2)]))

    def test_an_ack_below_una(self):
        connection = opened()
        connection.write([1, 2, 3], 1)
        connection.deliver(numbers(1, 4), 2)
        before = look(connection)
        connection.drain()
        connection.deliver(numbers(1, 2, window=9), 3)
        self.assertEqual(look(connection) | {"outgoing": 0}, before | {"outgoing": 0})


class BytesTest(unittest.TestCase):
    def check(self, connection, segment, owed):
        """What is owed after the bytes of the segment were taken, before the connection settles."""
        connection.settings = connection.settings.changed(delay=1000)
        connection.drain()
        connection.deliver(segment, 1)
        due = len(connection.drain()) > 0
        self.assertEqual((due, connection.owed), (owed == 2, 0 if owed == 2 else owed))

    def test_in_order(self):
        connection = opened()
        self.check(connection, numbers(1, 1, data=(1, 2)), 1)
        self.assertEqual(connection.alarms.when("delay"), 1001)
        self.check(connection, numbers(3, 1, data=(3, 4)), 2)
        self.check(connection, numbers(5, 1, data=(5, 6)), 1)
        self.assertEqual(connection.read(9, 1), (1, 2, 3, 4, 5, 6))

    def test_bytes_that_are_new_in_part_are_in_order(self):
        connection = opened()
        self.check(connection, numbers(1, 1, data=(1, 2)), 1)
        connection.owed = 0
        self.check(connection, numbers(1, 1, data=(1, 2, 3)), 1)
        connection = opened()
        self.check(connection, numbers(0, 1, data=(0, 1, 2)), 1)

    def test_bytes_that_were_stored_before(self):
        connection = opened()
        connection.deliver(numbers(1, 1, data=(1, 2)), 1)
        connection.owed = 0
        self.check(connection, numbers(1, 1, data=(1, 2)), 2)
        self.check(connection, numbers(1, 1, data=(1,)), 2)

    def test_bytes_behind_a_gap(self):
        self.check(opened(), numbers(2, 1, data=(2, 3)), 2)

    def test_bytes_that_fill_a_gap(self):
        connection = opened()
        connection.deliver(numbers(3, 1, data=(3, 4)), 1)
        self.check(connection, numbers(1, 1, data=(1, 2)), 2)
        self.assertEqual(connection.inbox.next_offset, 5)
        connection = opened()
        connection.deliver(numbers(5, 1, data=(5, 6)), 1)
        # The gap stays, so that there are still runs to tell.
        self.check(connection, numbers(1, 1, data=(1, 2)), 2)

    def test_bytes_over_the_edge(self):
        self.check(opened(inbox=4), numbers(1, 1, data=(1, 2, 3, 4)), 1)
        connection = opened(inbox=4)
        self.check(connection, numbers(1, 1, data=(1, 2, 3, 4, 5)), 2)
        self.assertEqual(connection.read(9, 1), (1, 2, 3, 4))

    def test_a_finish(self):
        connection = opened()
        self.check(connection, numbers(1, 1, flags="AF", data=(1, 2)), 2)
        self.assertEqual((connection.inbox.final, connection.inbox.ended), (3, True))
        connection = opened()
        self.check(connection, numbers(1, 1, flags="AF"), 2)
        self.assertEqual((connection.inbox.final, connection.inbox.ended), (1, True))
        connection = opened()
        self.check(connection, numbers(4, 1, flags="AF", data=(4,)), 2)
        self.assertEqual((connection.inbox.final, connection.inbox.ended), (5, False))

    def test_a_second_finish(self):
        connection = opened()
        connection.deliver(numbers(4, 1, flags="AF"), 1)
        self.check(connection, numbers(2, 1, flags="AF"), 2)
        self.assertEqual(connection.inbox.final, 4)

    def test_a_wrong_finish_is_ignored(self):
        connection = opened()
        connection.deliver(numbers(1, 1, data=(1, 2, 3)), 1)
        connection.deliver(numbers(6, 1, data=(6,)), 1)
        for low in (0, 1, 3, 4, 6):
            self.check(connection, numbers(low, 1, flags="AF"), 2)
            self.assertIsNone(connection.inbox.final)
        self.check(connection, numbers(7, 1, flags="AF"), 2)
        self.assertEqual(connection.inbox.final, 7)

    def test_urgent_bytes(self):
        connection = opened()
        connection.deliver(numbers(1, 1, flags="AU", data=(1, 2), urgent=5), 1)
        self.assertEqual((connection.inbox.urgent_end, connection.inbox.urgent_count), (6, 5))
        connection.deliver(numbers(3, 1, flags="AU", data=(3,), urgent=1), 1)
        self.assertEqual(connection.inbox.urgent_end, 6)
        connection.deliver(numbers(4, 1, flags="AFU", urgent=9), 1)
        self.assertEqual(connection.inbox.urgent_end, 13)

    def test_urgent_without_its_flag_or_without_bytes(self):
        connection = opened()
        connection.deliver(numbers(1, 1, data=(1, 2), urgent=5), 1)
        connection.deliver(numbers(3, 1, flags="AU", urgent=5), 1)
        self.assertEqual(connection.inbox.urgent_end, 0)

    def test_urgent_bytes_are_marked_before_they_are_taken(self):
        connection = opened(inbox=4)
        connection.deliver(numbers(9, 1, flags="AU", data=(9,), urgent=1), 1)
        self.assertEqual((connection.inbox.urgent_end, connection.inbox.told_runs()), (10, []))

    def test_a_segment_without_bytes(self):
        connection = opened()
        connection.deliver(numbers(1, 1, data=(1, 2)), 1)
        connection.owed = 0
        for seq, owed in ((3, 0), (4, 0), (9, 0), (2, 2), (1, 2), (0, 2)):
            self.check(connection, numbers(seq, 1), owed)

    def test_the_finish_counts_as_expected(self):
        connection = opened()
        connection.deliver(numbers(1, 1, flags="AF", data=(1, 2)), 1)
        for seq, owed in ((4, 0), (3, 2)):
            self.check(connection, numbers(seq, 1), owed)

    def test_a_waiting_acknowledgement_stays_waiting(self):
        connection = opened()
        self.check(connection, numbers(1, 1, data=(1,)), 1)
        self.check(connection, numbers(2, 1), 1)
        self.assertEqual(connection.alarms.when("delay"), 1001)

    def test_resting(self):
        for segment, when in ((numbers(2, 2), 64), (numbers(1, 2), 71), (numbers(1, 2, flags="AF"), 71),
                              (numbers(1, 2, data=(1,)), 71)):
            connection = resting()
            connection.deliver(segment, 7)
            self.assertEqual((connection.state, connection.alarms.when("rest")), ("resting", when))
            self.assertEqual(len(connection.drain()), 1 if when == 71 else 0)


if __name__ == "__main__":
    unittest.main()
