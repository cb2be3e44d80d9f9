"""lossway.connection: promises 43 and 44, the segments that are sent and the told window."""

import unittest

from lossway.segments import Segment
from tests.ends import (
    FIRST, MARK, PEER, SOURCE, TARGET, answer, answering, call, numbers, opened, opening, own, peer, sent,
)

COOKIE = (1, 2, 3, 4, 5, 6)


def drained(connection):
    """The only segment that was sent."""
    segment, = connection.drain()
    return segment


class OpeningTest(unittest.TestCase):
    def test_a_repeated_opening(self):
        connection = opening(piece=9, inbox=20)
        first = drained(connection)
        connection.tick(8)
        self.assertEqual(drained(connection), first)
        self.assertEqual(first, Segment(SOURCE, TARGET, mark=MARK, flags="S", seq=FIRST, window=20, piece=9))

    def test_a_repeated_answer(self):
        connection = answering(piece=9, inbox=20, tell=True)
        first = drained(connection)
        connection.deliver(call(), 3)
        self.assertEqual(drained(connection), first)
        self.assertEqual(first, Segment(
            SOURCE, TARGET, tag=PEER, mark=MARK, flags="SA", seq=FIRST, ack=peer(1), window=20, piece=9,
        ))

    def test_an_opening_that_was_crossed(self):
        connection = opening()
        connection.drain()
        connection.deliver(call(), 3)
        self.assertEqual(drained(connection), Segment(
            SOURCE, TARGET, tag=PEER, mark=MARK, flags="SA", seq=FIRST, ack=peer(1), window=64, piece=8,
        ))


class NumbersTest(unittest.TestCase):
    def test_bytes(self):
        connection = opened()
        connection.write([10, 11, 12], 1)
        self.assertEqual(drained(connection), Segment(
            SOURCE, TARGET, tag=PEER, mark=MARK, flags="A", seq=own(1), ack=peer(1), window=64, data=(10, 11, 12),
        ))

    def test_bytes_and_finish(self):
        connection = opened(delay=9)
        connection.outbox.put([10, 11])
        connection.close(1)
        self.assertEqual(drained(connection), Segment(
            SOURCE, TARGET, tag=PEER, mark=MARK, flags="AF", seq=own(1), ack=peer(1), window=64, data=(10, 11),
        ))

    def test_a_finish_alone(self):
        connection = opened()
        connection.close(1)
        self.assertEqual(drained(connection), Segment(
            SOURCE, TARGET, tag=PEER, mark=MARK, flags="AF", seq=own(1), ack=peer(1), window=64,
        ))

    def test_a_closed_outbox_does_not_finish_before_its_end(self):
        connection = opened(piece=4)
        connection.outbox.put([1, 2, 3, 4, 5, 6])
        connection.close(1)
        self.assertEqual(sent(connection), [("A", 1, 5, 1), ("AF", 5, 8, 1)])

    def test_an_acknowledgement(self):
        connection = opened(delay=0)
        connection.write([10, 11, 12], 1)
        connection.drain()
        connection.deliver(numbers(1, 1, data=(5, 6)), 2)
        self.assertEqual(drained(connection), Segment(
            SOURCE, TARGET, tag=PEER, mark=MARK, flags="A", seq=own(4), ack=peer(3), window=62,
        ))

    def test_a_poke(self):
        connection = opened(window=0)
        connection.write([10], 1)
        self.assertEqual(connection.drain(), [])
        connection.tick(connection.alarms.when("probe"))
        self.assertEqual(drained(connection), Segment(
            SOURCE, TARGET, tag=PEER, mark=MARK, flags="A", seq=own(0), ack=peer(1), window=64,
        ))

    def test_the_ack_counts_the_finish_of_the_peer(self):
        connection = opened()
        connection.deliver(numbers(1, 1, flags="AF", data=(5, 6)), 2)
        self.assertEqual(drained(connection).ack, peer(4))
        connection.write([1], 3)
        self.assertEqual(drained(connection).ack, peer(4))

    def test_a_reset(self):
        connection = opened(delay=9)
        connection.cookie = COOKIE
        connection.write([10, 11, 12], 1)
        connection.deliver(numbers(1, 1, data=(5, 6)), 2)
        connection.deliver(numbers(9, 1, data=(5, 6)), 2)
        connection.drain()
        told = connection.told_edge
        connection.inbox.read(2)
        connection.abort(3)
        self.assertEqual(drained(connection), Segment(
            SOURCE, TARGET, tag=PEER, mark=MARK, flags="AR", seq=own(4), ack=peer(3),
        ))
        self.assertEqual((connection.told_edge, connection.owed), (told, 0))

    def test_a_reset_does_not_bring_the_window_up_to_date(self):
        connection = opened(inbox=8, delay=9)
        connection.deliver(numbers(1, 1, data=range_of(1, 9)), 1)
        connection.drain()
        connection.inbox.read(8)
        self.assertEqual((connection.owed, connection.told_edge), (1, 9))
        connection.abort(2)
        self.assertEqual((connection.drain()[0].window, connection.told_edge, connection.owed), (0, 9, 0))


def range_of(low, high):
    return tuple([offset % 256 for offset in range(low, high)])


class UrgentTest(unittest.TestCase):
    def test_urgent_bytes(self):
        connection = opened()
        connection.urge([1, 2, 3], 1)
        segment = drained(connection)
        self.assertEqual((segment.flags, segment.urgent, segment.data), ("AU", 3, (1, 2, 3)))
        connection.write([4], 1)
        self.assertEqual(connection.drain(), [])
        connection.deliver(numbers(1, 4), 2)
        segment = drained(connection)
        self.assertEqual((segment.flags, segment.urgent, segment.data), ("A", 0, (4,)))

    def test_one_urgent_byte(self):
        connection = opened()
        connection.urge([7], 1)
        segment = drained(connection)
        self.assertEqual((segment.flags, segment.urgent, segment.data), ("AU", 1, (7,)))

    def test_urgent_bytes_behind_the_segment(self):
        connection = opened(piece=4, outbox=20, control="fixed")
        connection.outbox.put([1] * 6)
        connection.urge([2] * 4, 1)
        rows = [(segment.flags, segment.urgent, len(segment.data)) for segment in connection.drain()]
        self.assertEqual(rows, [("AU", 10, 4), ("AU", 6, 4), ("AU", 2, 2)])

    def test_a_finish_without_bytes_is_not_urgent(self):
        connection = opened(piece=4, control="fixed")
        connection.outbox.urge([1] * 4)
        connection.close(1)
        segment = drained(connection)
        self.assertEqual((segment.flags, segment.urgent), ("AFU", 4))
        connection = opened()
        connection.outbox.urgent_end = 5
        connection.close(1)
        segment = drained(connection)
        self.assertEqual((segment.flags, segment.urgent), ("AF", 0))

    def test_acknowledgements_are_not_urgent(self):
        connection = opened(window=0, delay=0)
        connection.urge([1, 2, 3], 1)
        connection.deliver(numbers(1, 1, window=0, data=(5,)), 2)
        segment = drained(connection)
        self.assertEqual((segment.flags, segment.urgent), ("A", 0))


class CookieTest(unittest.TestCase):
    def test_a_cookie_is_echoed(self):
        connection = opening()
        connection.drain()
        connection.deliver(answer(cookie=COOKIE), 1)
        self.assertEqual((connection.cookie, [segment.cookie for segment in connection.drain()]), (COOKIE, [COOKIE]))
        connection.write([1], 1)
        connection.close(1)
        self.assertEqual([segment.cookie for segment in connection.drain()], [COOKIE, COOKIE])
        connection.deliver(numbers(1, 2), 2)
        self.assertEqual(connection.cookie, ())
        connection.deliver(numbers(9, 2), 3)
        connection.tick(60)
        self.assertEqual({segment.cookie for segment in connection.drain()}, {()})

    def test_an_opening_has_no_cookie(self):
        connection = answering()
        connection.cookie = COOKIE
        connection.drain()
        connection.deliver(call(), 1)
        self.assertEqual([(segment.flags, segment.cookie) for segment in connection.drain()], [("SA", ())])

    def test_a_reset_has_no_cookie(self):
        connection = opened()
        connection.cookie = COOKIE
        connection.abort(1)
        self.assertEqual(drained(connection).cookie, ())


class BlocksTest(unittest.TestCase):
    def test_blocks(self):
        connection = opened()
        connection.deliver(numbers(7, 1, data=(7, 8)), 1)
        connection.deliver(numbers(3, 1, data=(3, 4)), 1)
        connection.deliver(numbers(13, 1, data=(13,)), 1)
        blocks = [segment.blocks for segment in connection.drain()]
        self.assertEqual(blocks, [
            ((peer(7), peer(9)),),
            ((peer(3), peer(5)), (peer(7), peer(9))),
            ((peer(13), peer(14)), (peer(3), peer(5)), (peer(7), peer(9))),
        ])
        # The numbers wrap between the offsets 8 and 9.
        self.assertEqual((peer(8), peer(9)), (1023, 0))

    def test_all_segments_but_openings_and_resets_have_blocks(self):
        connection = opened()
        connection.deliver(numbers(7, 1, data=(7, 8)), 1)
        connection.drain()
        wanted = ((peer(7), peer(9)),)
        connection.write([1, 2], 1)
        self.assertEqual(drained(connection).blocks, wanted)
        connection.close(1)
        self.assertEqual(drained(connection).blocks, wanted)
        connection.tick(connection.alarms.when("resend"))
        self.assertEqual(drained(connection).blocks, wanted)
        connection.abort(70)
        self.assertEqual(drained(connection).blocks, ())

    def test_without_tell_there_are_no_blocks(self):
        connection = opened(tell=False)
        connection.deliver(numbers(7, 1, data=(7, 8)), 1)
        self.assertEqual(drained(connection).blocks, ())

    def test_an_opening_has_no_blocks(self):
        connection = answering()
        connection.inbox.take(5, [1])
        connection.drain()
        connection.deliver(call(), 1)
        self.assertEqual(drained(connection).blocks, ())


class OwedTest(unittest.TestCase):
    def test_each_segment_with_the_flag_a_pays_what_is_owed(self):
        connection = opened(delay=9, join=False)
        connection.deliver(numbers(1, 1, data=(1,)), 1)
        self.assertEqual((connection.owed, connection.alarms.when("delay")), (1, 10))
        connection.write([1], 2)
        self.assertEqual((connection.owed, connection.alarms.when("delay")), (0, None))
        self.assertEqual(sent(connection), [("A", 1, 2, 2)])

    def test_a_poke_pays_too(self):
        connection = opened(window=0, delay=99)
        connection.write([1], 1)
        connection.deliver(numbers(1, 1, window=0, data=(1,)), 1)
        self.assertEqual((connection.owed, "delay" in connection.alarms), (1, True))
        connection.tick(connection.alarms.when("probe"))
        self.assertEqual((connection.owed, "delay" in connection.alarms), (0, False))
        self.assertEqual(sent(connection), [("A", 0, 0, 2)])

    def test_an_answer_pays_and_an_opening_does_not(self):
        connection = answering()
        connection.owed = 1
        connection.alarms.arm("delay", 5)
        connection.deliver(call(), 1)
        self.assertEqual((connection.owed, "delay" in connection.alarms), (0, False))
        connection = opening()
        connection.owed = 1
        connection.settings = connection.settings.changed(delay=9)
        connection.alarms.arm("delay", 50)
        connection.tick(8)
        self.assertEqual((connection.owed, connection.alarms.when("delay")), (1, 50))


class ToldWindowTest(unittest.TestCase):
    def told(self, connection):
        """What the next segment tells."""
        connection.owed = 2
        connection.tick(1)
        return drained(connection).window, connection.told_edge

    def test_a_window_that_has_not_grown_is_kept(self):
        connection = opened(inbox=64, piece=8)
        connection.inbox.take(1, [1] * 20)
        self.assertEqual(self.told(connection), (44, 65))
        # The step is 8: what has grown by 7 is kept, by 8 raised.
        connection.inbox.read(7)
        self.assertEqual((connection.inbox.edge, self.told(connection)), (72, (44, 65)))
        connection.inbox.read(1)
        self.assertEqual((connection.inbox.edge, self.told(connection)), (73, (52, 73)))

    def test_the_step_is_at_most_half_of_the_limit(self):
        for limit, step in ((1, 1), (2, 1), (3, 1), (4, 2), (9, 4), (15, 7), (16, 8), (17, 8), (40, 8)):
            connection = opened(inbox=limit, piece=8)
            connection.inbox.take(1, [1] * limit)
            self.assertEqual(self.told(connection), (0, limit + 1))
            connection.inbox.read(step - 1)
            self.assertEqual(self.told(connection), (0, limit + 1), limit)
            connection.inbox.read(1)
            self.assertEqual(self.told(connection), (step, limit + 1 + step))

    def test_a_withdrawn_window(self):
        connection = opened(inbox=64)
        connection.inbox.take(1, [1] * 20)
        connection.inbox.resize(30)
        self.assertEqual(self.told(connection), (10, 31))
        connection.inbox.resize(29)
        self.assertEqual(self.told(connection), (9, 30))
        connection.inbox.resize(1)
        self.assertEqual(self.told(connection), (0, 21))

    def test_the_told_edge_is_not_below_the_next_offset(self):
        connection = opened(inbox=8, piece=8)
        connection.told_edge = 3
        connection.inbox.take(1, [1] * 6)
        connection.inbox.resize(7)
        # The window has grown by 5, and the step is 3.
        self.assertEqual(self.told(connection), (1, 8))
        connection = opened(inbox=16, piece=8)
        connection.told_edge = 11
        connection.inbox.take(1, [1] * 13)
        self.assertEqual((connection.inbox.edge, self.told(connection)), (17, (0, 14)))

    def test_an_opening_tells_the_window_too(self):
        connection = opening(inbox=64)
        connection.drain()
        connection.inbox.resize(20)
        connection.tick(8)
        self.assertEqual((drained(connection).window, connection.told_edge), (20, 21))
        connection.inbox.resize(24)
        connection.tick(60)
        self.assertEqual((drained(connection).window, connection.told_edge), (20, 21))
        connection.inbox.resize(28)
        connection.tick(200)
        self.assertEqual((drained(connection).window, connection.told_edge), (28, 29))


if __name__ == "__main__":
    unittest.main()
