"""lossway.connection: promises 37 to 41, how a connection begins."""

import unittest

from lossway.connection import Connection
from lossway.estimate import Estimate
from lossway.segments import Segment
from lossway.settings import Settings
from lossway.spans import Spans
from tests.ends import (
    FIRST, MARK, PEER, PEER_FIRST, SCALARS, SOURCE, TARGET, answer, answering, call, numbers, opened, opening, own,
    peer, resumed, sent,
)

NEW = {
    "reason": "", "source": SOURCE, "target": TARGET, "mark": MARK, "first": FIRST, "recover": None,
    "update_seq": 0, "update_ack": 1, "told_edge": 65, "owed": 0, "attempts": 0, "pokes": 0, "unheard": 0, "repeats": 0,
    "trial_low": None, "trial_high": None, "period": 0, "older": 0, "newer": 0, "rests": False, "cookie": (),
}


def scalars(connection):
    return {name: getattr(connection, name) for name in SCALARS}


class BeginningsTest(unittest.TestCase):
    def check_parts(self, connection):
        for name in ("sacked", "lost", "resent"):
            self.assertEqual(getattr(connection, name), Spans())
        self.assertEqual(len({id(getattr(connection, name)) for name in ("sacked", "lost", "resent")}), 3)
        self.assertEqual(vars(connection.estimate), vars(Estimate(2, 64)))
        self.assertEqual((connection.outbox.limit, connection.outbox.base, connection.outbox.end), (64, 1, 1))
        self.assertEqual((connection.inbox.limit, connection.inbox.next_offset, connection.inbox.ready), (64, 1, 0))
        self.assertEqual(connection.settings, Settings())
        self.assertEqual((connection.confirmed, connection.at_end), (0, False))

    def test_opening(self):
        connection = opening(now=5)
        self.assertEqual(scalars(connection), {
            **NEW, "state": "opening", "peer_mark": None, "peer_first": None, "una": 0, "top": 1, "peer_edge": 0,
            "greatest": 0, "timed_end": 1, "timed_at": 5,
        })
        self.check_parts(connection)
        self.assertIsNone(connection.control)
        self.assertIsNone(connection.finder)
        self.assertEqual(connection.flight, 1)
        # The timeout without samples is 4 * low.
        self.assertEqual((len(connection.alarms), connection.alarms.when("resend")), (1, 13))
        self.assertEqual(connection.drain(), [Segment(
            SOURCE, TARGET, mark=MARK, flags="S", seq=FIRST, window=64, piece=8,
        )])

    def test_answering(self):
        connection = answering(now=5, segment=call(window=9, piece=6))
        self.assertEqual(scalars(connection), {
            **NEW, "state": "answering", "peer_mark": PEER, "peer_first": PEER_FIRST, "una": 0, "top": 1,
            "peer_edge": 10, "greatest": 9, "timed_end": 1, "timed_at": 5,
        })
        self.check_parts(connection)
        self.assertEqual((connection.control.KIND, connection.control.unit, connection.flight), ("climb", 6, 1))
        self.assertEqual((connection.finder.size, connection.finder.ceiling), (6, 6))
        self.assertEqual((len(connection.alarms), connection.alarms.when("resend")), (1, 13))
        self.assertEqual(connection.drain(), [Segment(
            SOURCE, TARGET, tag=PEER, mark=MARK, flags="SA", seq=FIRST, ack=peer(1), window=64, piece=8,
        )])

    def test_resumed(self):
        connection = resumed(now=5, window=9, told=6)
        self.assertEqual(scalars(connection), {
            **NEW, "state": "open", "peer_mark": PEER, "peer_first": PEER_FIRST, "una": 1, "top": 1, "peer_edge": 10,
            "greatest": 9, "timed_end": None, "timed_at": None,
        })
        self.check_parts(connection)
        self.assertEqual((connection.control.unit, connection.finder.size, connection.flight), (6, 6, 0))
        self.assertEqual((len(connection.alarms), connection.drain()), (0, []))

    def test_resumed_takes_all_from_the_cookie(self):
        cookie = (21, 22, 23, 3, 25, 26)
        segment = Segment(7, 8, tag=1, mark=2, flags="A", seq=3, ack=4, window=5, piece=6, cookie=cookie)
        connection = Connection.resumed(Settings(), segment, now=40)
        self.assertEqual((connection.source, connection.target), (8, 7))
        self.assertEqual((connection.mark, connection.first), (21, 22))
        self.assertEqual((connection.peer_mark, connection.peer_first), (25, 26))
        self.assertEqual((connection.control.unit, connection.peer_edge, connection.period), (3, 6, 4))
        self.assertEqual((connection.older, connection.newer, connection.cookie), (0, 0, ()))

    def test_answering_takes_all_from_the_opening(self):
        segment = Segment(7, 8, mark=2, flags="S", seq=4294967295, window=5, piece=6, cookie=(1,) * 6)
        connection = Connection.answering(Settings(), segment, mark=21, first=22, now=40)
        self.assertEqual((connection.source, connection.target), (8, 7))
        self.assertEqual((connection.mark, connection.first), (21, 22))
        self.assertEqual((connection.peer_mark, connection.peer_first), (2, 4294967295))
        self.assertEqual((connection.period, connection.cookie, connection.state), (4, (), "answering"))
        self.assertEqual([segment.ack for segment in connection.drain()], [0])

    def test_the_period_at_the_begin(self):
        for make in (opening, answering, resumed):
            for now, life, period in ((0, 8, 0), (8, 8, 0), (9, 8, 1), (26, 8, 2), (27, 8, 3), (27, 1, 13)):
                connection = make(now=now, life=life)
                self.assertEqual((connection.period, connection.older, connection.newer), (period, 0, 0))

    def test_the_settings_set_the_parts(self):
        choices = {"inbox": 20, "outbox": 30, "low": 3, "high": 7, "control": "delay", "size": 128}
        for make in (answering, resumed):
            connection = make(now=2, **choices)
            self.assertEqual((connection.inbox.limit, connection.outbox.limit, connection.told_edge), (20, 30, 21))
            self.assertEqual((connection.estimate.low, connection.estimate.high), (3, 7))
            self.assertEqual(connection.control.KIND, "delay")
        self.assertEqual(opening(now=2, **choices).alarms.when("resend"), 9)

    def test_the_unit(self):
        for piece, told, unit in (
            (8, 6, 6), (8, 8, 8), (8, 9, 8), (8, 65535, 8), (8, 1, 1), (8, 0, 4), (1400, 1400, 1400),
        ):
            connection = answering(segment=call(piece=told), piece=piece)
            self.assertEqual((connection.control.unit, connection.finder.size, connection.finder.ceiling), (unit,) * 3)
        for told, unit in ((6, 6), (9, 8), (1, 1), (0, 4)):
            self.assertEqual(resumed(told=told).control.unit, unit)

    def test_a_piece_of_a_cookie_is_not_checked(self):
        segment = numbers(cookie=(MARK, FIRST, 3, 4294967295, PEER, PEER_FIRST))
        self.assertEqual(Connection.resumed(Settings(), segment, now=0).control.unit, 8)

    def test_the_finder(self):
        for told, low, high in ((8, 4, 8), (9, 4, 8), (4, 4, 4), (3, 3, 3), (0, 4, 4)):
            connection = answering(segment=call(piece=told), seek=True)
            self.assertEqual((connection.finder.size, connection.finder.ceiling), (low, high))

    def test_the_peer_of_an_opening_becomes_known(self):
        for segment, state in ((answer(window=9, piece=6), "open"), (call(window=9, piece=6), "answering")):
            connection = opening()
            connection.deliver(segment, 3)
            self.assertEqual((connection.state, connection.peer_mark, connection.peer_first), (state, PEER, PEER_FIRST))
            self.assertEqual((connection.peer_edge, connection.greatest), (10, 9))
            self.assertEqual((connection.update_seq, connection.update_ack), (0, 1))
            self.assertEqual((connection.control.unit, connection.finder.size), (6, 6))

    def test_a_window_of_0(self):
        connection = answering(segment=call(window=0))
        self.assertEqual((connection.peer_edge, connection.greatest), (1, 0))


class OffsetsTest(unittest.TestCase):
    def test_own_offsets_wrap(self):
        connection = opened()
        connection.write([1, 2, 3, 4, 5], 1)
        connection.close(1)
        data, finish = connection.drain()
        self.assertEqual((data.seq, data.ack, data.data), (own(1), peer(1), (1, 2, 3, 4, 5)))
        self.assertEqual((data.seq, finish.seq, finish.flags), (1021, 2, "AF"))

    def test_received_numbers_are_read_modulo_the_size(self):
        connection = opened()
        connection.write([1, 2, 3], 1)
        for shift in (1024, 4096, 4294967296 - 1024):
            segment = numbers(1, 4)
            connection.deliver(segment.changed(ack=segment.ack + shift), 2)
            self.assertEqual((connection.una, connection.confirmed), (4, 3))
        segment = numbers(1, 4, data=(7,))
        connection.deliver(segment.changed(seq=segment.seq + 2048), 3)
        self.assertEqual(connection.read(5, 3), (7,))

    def test_the_ack_is_read_near_una(self):
        connection = opened(size=64, inbox=16)
        connection.una = connection.top = 100
        connection.outbox.base = connection.outbox.end = 100
        connection.newer = connection.older = 100
        connection.peer_edge = 200
        connection.write([7] * 16, 1)
        self.assertEqual(connection.top, 116)
        # In a ring of 64 these are near, but 117 is above top.
        for ack, una in ((101, 101), (105, 105), (105, 105), (104, 105), (73, 105), (117, 105), (116, 116)):
            connection.deliver(numbers(1, ack, size=64), 2)
            self.assertEqual(connection.una, una)

    def test_the_seq_is_read_near_the_next_offset(self):
        connection = opened(size=64, inbox=16)
        for low in range(1, 201, 5):
            self.assertTrue(connection.deliver(numbers(low, 1, data=at_offsets(low, low + 5), size=64), 1))
            self.assertEqual(connection.read(9, 1), at_offsets(low, low + 5))
        self.assertEqual(connection.inbox.next_offset, 201)

    def test_the_blocks_are_read_near_una(self):
        connection = opened(size=64, inbox=16)
        connection.una = 100
        connection.outbox.base = connection.outbox.end = 100
        connection.top = 116
        connection.newer = connection.older = 100
        connection.outbox.put([7] * 16)
        connection.deliver(numbers(1, 100, size=64, blocks=[(102, 104), (106, 107), (115, 116)]), 2)
        self.assertEqual(connection.sacked.rows(), [(102, 104), (106, 107), (115, 116)])


def at_offsets(low, high):
    return tuple([offset % 256 for offset in range(low, high)])


class DrainTest(unittest.TestCase):
    def test_drain(self):
        connection = opening()
        first = connection.drain()
        self.assertEqual((len(first), connection.drain()), (1, []))
        connection.deliver(answer(), 1)
        connection.write([1], 1)
        connection.write([2], 1)
        connection.urge([3], 1)
        self.assertEqual(sent(connection), [("A", 1, 1, 1), ("A", 1, 2, 1), ("AU", 2, 4, 1)])
        connection.write([2], 1)
        connection.outgoing.clear()
        self.assertEqual(connection.drain(), [])

    def test_the_list_is_fresh(self):
        connection = opening()
        connection.drain().append(5)
        self.assertEqual(connection.drain(), [])

    def test_a_connection_is_made_by_its_class_methods(self):
        for name in ("opening", "answering", "resumed"):
            self.assertIsInstance(vars(Connection)[name], classmethod)
        self.assertIsInstance(opening(), Connection)


if __name__ == "__main__":
    unittest.main()
