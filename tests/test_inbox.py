"""lossway.inbox: promises 21 to 24."""

import unittest
from random import Random

from lossway.errors import InvalidNumber, InvalidSetting
from lossway.inbox import Inbox
from tests.values import NOT_INTEGERS, NOT_SEQUENCES, caught


def look(inbox):
    """All that can be asked an inbox without changing it."""
    return (inbox.limit, inbox.next_offset, inbox.read_offset, inbox.final, inbox.urgent_end, inbox.edge, inbox.room,
            inbox.ready, inbox.ended, inbox.expected, inbox.urgent_count, inbox.told_runs())


class LimitTest(unittest.TestCase):
    def test_a_new_inbox(self):
        for limit in (1, 2, 64, 65535):
            self.assertEqual(look(Inbox(limit)), (limit, 1, 1, None, 0, 1 + limit, limit, 0, False, 1, 0, []))

    def test_wrong_limits(self):
        inbox = Inbox(8)
        inbox.take(1, [1, 2])
        inbox.take(5, [5])
        before = look(inbox)
        for limit in (0, -1, 65536, 10 ** 12, *NOT_INTEGERS):
            self.assertEqual(caught(InvalidSetting, Inbox, limit), {"setting": "limit"})
            self.assertEqual(caught(InvalidSetting, inbox.resize, limit), {"setting": "limit"})
            with self.assertRaises(InvalidSetting) as found:
                inbox.limit = limit
            self.assertEqual(vars(found.exception), {"setting": "limit"})
            self.assertEqual(look(inbox), before)

    def test_another_limit(self):
        inbox = Inbox(8)
        inbox.take(1, [1, 2, 3])
        inbox.read(1)
        for limit, edge, room in ((65535, 65537, 65533), (8, 10, 6), (3, 5, 1), (2, 4, 0), (1, 4, 0)):
            self.assertIsNone(inbox.resize(limit))
            self.assertEqual((inbox.limit, inbox.edge, inbox.room, inbox.ready), (limit, edge, room, 2))
            inbox.resize(9)
            inbox.limit = limit
            self.assertEqual((inbox.limit, inbox.edge, inbox.room, inbox.ready), (limit, edge, room, 2))

    def test_a_lower_limit_drops_no_stored_byte(self):
        inbox = Inbox(10)
        inbox.take(1, [1, 2, 3])
        inbox.take(6, [6, 7, 8])
        inbox.resize(2)
        self.assertEqual((inbox.edge, inbox.room, inbox.told_runs()), (4, 0, [(6, 9)]))
        self.assertEqual((inbox.take(4, [4, 5]), inbox.next_offset), (0, 4))
        self.assertEqual(inbox.read(2), (1, 2))
        self.assertEqual((inbox.edge, inbox.take(4, [4, 5]), inbox.next_offset), (5, 1, 5))
        self.assertEqual(inbox.read(9), (3, 4))
        self.assertEqual((inbox.edge, inbox.take(5, [5, 66, 77, 88, 99])), (7, 1))
        self.assertEqual((inbox.next_offset, inbox.edge, inbox.room, inbox.ready), (9, 9, 0, 4))
        self.assertEqual(inbox.read(9), (5, 6, 7, 8))

    def test_a_raised_limit_lets_more_bytes_in(self):
        inbox = Inbox(2)
        self.assertEqual(inbox.take(1, [1, 2, 3, 4]), 2)
        inbox.limit = 3
        self.assertEqual((inbox.take(1, [1, 2, 3, 4]), inbox.read(9)), (1, (1, 2, 3)))


class TakeTest(unittest.TestCase):
    def test_example(self):
        inbox = Inbox(6)
        first = inbox.take(3, [7, 8])
        later = inbox.take(1, [5, 6, 7])
        found = [first, later, inbox.next_offset, inbox.edge, inbox.read(3), inbox.ready, inbox.told_runs()]
        self.assertEqual(found, [2, 2, 5, 7, (5, 6, 7), 1, []])

    def test_in_order(self):
        inbox = Inbox(8)
        self.assertEqual((inbox.take(1, [10, 11]), inbox.next_offset, inbox.ready, inbox.room), (2, 3, 2, 6))
        self.assertEqual((inbox.take(3, (12,)), inbox.next_offset, inbox.ready, inbox.room), (1, 4, 3, 5))
        self.assertEqual((inbox.edge, inbox.read(8), inbox.edge), (9, (10, 11, 12), 12))

    def test_no_bytes(self):
        inbox = Inbox(8)
        for offset in (0, 1, 5, 9, 99):
            self.assertEqual((inbox.take(offset, []), inbox.take(offset, ())), (0, 0))
        self.assertEqual(look(inbox), look(Inbox(8)))

    def test_offset_0_and_other_bytes_below_next_offset(self):
        inbox = Inbox(8)
        self.assertEqual((inbox.take(0, [99, 1, 2]), inbox.next_offset), (2, 3))
        self.assertEqual((inbox.take(0, [99, 98, 97]), inbox.take(1, [98, 97]), inbox.next_offset), (0, 0, 3))
        self.assertEqual((inbox.take(2, [97, 3]), inbox.read(9)), (1, (1, 2, 3)))
        self.assertEqual((inbox.take(1, [9, 9, 9, 4]), inbox.read(9)), (1, (4,)))

    def test_the_edge(self):
        inbox = Inbox(4)
        self.assertEqual((inbox.take(5, [5]), inbox.take(99, [5])), (0, 0))
        self.assertEqual((inbox.take(4, [4, 5, 6]), inbox.told_runs()), (1, [(4, 5)]))
        self.assertEqual((inbox.take(1, [1, 2, 3, 44, 5, 6]), inbox.next_offset, inbox.edge), (3, 5, 5))
        self.assertEqual((inbox.read(9), inbox.edge), ((1, 2, 3, 4), 9))

    def test_the_edge_is_that_before_the_call(self):
        # The edge rises with next_offset if the limit is low, but not within the call.
        inbox = Inbox(5)
        inbox.take(2, [2, 3, 4, 5])
        inbox.resize(1)
        self.assertEqual(inbox.edge, 2)
        self.assertEqual((inbox.take(1, [1, 22, 33, 44, 55, 66]), inbox.next_offset, inbox.edge), (1, 6, 6))
        self.assertEqual(inbox.take(6, [66]), 0)
        self.assertEqual(inbox.read(9), (1, 2, 3, 4, 5))

    def test_stored_bytes_stay(self):
        inbox = Inbox(9)
        inbox.take(3, [3])
        inbox.take(6, [6, 7])
        self.assertEqual(inbox.take(2, [22, 33, 44, 55, 66, 77, 88, 99]), 5)
        self.assertEqual((inbox.told_runs(), inbox.next_offset), ([(2, 10)], 1))
        inbox.take(1, [11])
        self.assertEqual(inbox.read(20), (11, 22, 3, 44, 55, 6, 7, 88, 99))

    def test_a_gap_holds_next_offset(self):
        inbox = Inbox(9)
        self.assertEqual((inbox.take(2, [2, 3]), inbox.next_offset, inbox.ready), (2, 1, 0))
        self.assertEqual((inbox.take(5, [5]), inbox.next_offset, inbox.read(9)), (1, 1, ()))
        self.assertEqual((inbox.take(1, [1]), inbox.next_offset, inbox.ready), (1, 4, 3))
        self.assertEqual((inbox.take(4, [4]), inbox.next_offset, inbox.ready), (1, 6, 5))

    def test_bytes_from_final_on_are_skipped(self):
        inbox = Inbox(9)
        inbox.finish(4)
        self.assertEqual((inbox.take(4, [4]), inbox.take(5, [5]), inbox.take(3, [3, 4, 5])), (0, 0, 1))
        self.assertEqual((inbox.take(1, [1, 2, 33, 44, 55]), inbox.next_offset, inbox.read(9)), (2, 4, (1, 2, 3)))

    def test_lists_are_copied_and_not_changed(self):
        data = [1, 2, 3]
        inbox = Inbox(9)
        inbox.take(1, data)
        self.assertEqual(data, [1, 2, 3])
        data[0] = 9
        data.clear()
        self.assertEqual(inbox.read(9), (1, 2, 3))

    def test_wrong_arguments(self):
        inbox = Inbox(9)
        inbox.take(3, [3])
        before = look(inbox)
        for offset in (-1, -10, *NOT_INTEGERS):
            self.assertIs(caught(InvalidNumber, inbox.take, offset, [256])["number"], offset)
            self.assertIs(caught(InvalidNumber, inbox.take, offset, [1])["number"], offset)
        for value in NOT_SEQUENCES:
            self.assertIs(caught(InvalidNumber, inbox.take, 1, value)["number"], value)
        for wrong in (-1, 256, *NOT_INTEGERS):
            self.assertIs(caught(InvalidNumber, inbox.take, 1, [1, wrong, -5])["number"], wrong)
            self.assertIs(caught(InvalidNumber, inbox.take, 99, (wrong,))["number"], wrong)
        self.assertEqual(look(inbox), before)


class FinishTest(unittest.TestCase):
    def test_the_end_of_a_stream(self):
        inbox = Inbox(9)
        inbox.take(1, [1, 2])
        self.assertIsNone(inbox.finish(5))
        self.assertEqual((inbox.final, inbox.ended, inbox.expected), (5, False, 3))
        inbox.take(3, [3])
        self.assertEqual((inbox.ended, inbox.expected), (False, 4))
        inbox.take(4, [4, 5])
        self.assertEqual((inbox.ended, inbox.next_offset, inbox.expected), (True, 5, 6))
        self.assertEqual((inbox.read(9), inbox.ended, inbox.expected), ((1, 2, 3, 4), True, 6))

    def test_finish_at_next_offset(self):
        inbox = Inbox(9)
        inbox.finish(1)
        self.assertEqual((inbox.final, inbox.ended, inbox.expected, inbox.next_offset), (1, True, 2, 1))

    def test_the_least_offset(self):
        inbox = Inbox(9)
        inbox.take(1, [1, 2])
        for offset in (2, 1, 0, -1, *NOT_INTEGERS):
            self.assertIs(caught(InvalidNumber, inbox.finish, offset)["number"], offset)
        self.assertIs(inbox.final, None)
        inbox.take(4, [4])
        inbox.take(7, [7, 8])
        for offset in (2, 3, 4, 5, 6, 7, 8, *NOT_INTEGERS):
            self.assertIs(caught(InvalidNumber, inbox.finish, offset)["number"], offset)
        self.assertEqual((inbox.final, inbox.ended, inbox.expected), (None, False, 3))
        inbox.finish(9)
        self.assertEqual((inbox.final, inbox.ended, inbox.expected), (9, False, 3))

    def test_finish_may_lie_beyond_the_edge(self):
        inbox = Inbox(2)
        inbox.finish(10 ** 12)
        self.assertEqual((inbox.final, inbox.take(1, [1, 2, 3])), (10 ** 12, 2))

    def test_bytes_that_were_read_hold_the_least_offset(self):
        inbox = Inbox(9)
        inbox.take(1, [1, 2])
        inbox.read(2)
        self.assertEqual(caught(InvalidNumber, inbox.finish, 2), {"number": 2})
        inbox.finish(3)
        self.assertEqual((inbox.ended, inbox.expected), (True, 4))

    def test_a_second_finish_changes_and_raises_nothing(self):
        inbox = Inbox(9)
        inbox.take(1, [1, 2])
        inbox.finish(5)
        before = look(inbox)
        for offset in (5, 6, 4, 3, 1, -1, *NOT_INTEGERS):
            self.assertIsNone(inbox.finish(offset))
            self.assertEqual(look(inbox), before)


class ReadTest(unittest.TestCase):
    def test_at_most_count_and_at_most_what_is_ready(self):
        inbox = Inbox(9)
        inbox.take(1, [1, 2, 3, 4])
        inbox.take(6, [6])
        self.assertEqual((inbox.read(0), inbox.read_offset), ((), 1))
        self.assertEqual((inbox.read(1), inbox.read_offset, inbox.ready), ((1,), 2, 3))
        self.assertEqual((inbox.read(2), inbox.read_offset, inbox.ready), ((2, 3), 4, 1))
        self.assertEqual((inbox.read(10 ** 12), inbox.read_offset, inbox.ready), ((4,), 5, 0))
        self.assertEqual((inbox.read(5), inbox.read_offset, inbox.next_offset), ((), 5, 5))
        self.assertEqual((inbox.told_runs(), inbox.edge), ([(6, 7)], 14))

    def test_wrong_counts(self):
        inbox = Inbox(9)
        inbox.take(1, [1, 2])
        before = look(inbox)
        for count in (-1, -5, *NOT_INTEGERS):
            self.assertIs(caught(InvalidNumber, inbox.read, count)["number"], count)
        self.assertEqual(look(inbox), before)

    def test_read_gives_tuples(self):
        inbox = Inbox(9)
        inbox.take(1, [1, 2])
        self.assertIs(inbox.read(1).__class__, tuple)


class ToldRunsTest(unittest.TestCase):
    def test_the_latest_run_comes_first(self):
        inbox = Inbox(40)
        inbox.take(3, [0])
        self.assertEqual(inbox.told_runs(), [(3, 4)])
        inbox.take(7, [0, 0])
        self.assertEqual(inbox.told_runs(), [(7, 9), (3, 4)])
        inbox.take(5, [0])
        self.assertEqual(inbox.told_runs(), [(5, 6), (3, 4), (7, 9)])
        inbox.take(11, [0])
        self.assertEqual(inbox.told_runs(), [(11, 12), (3, 4), (5, 6)])
        inbox.take(7, [0, 0])
        self.assertEqual(inbox.told_runs(), [(11, 12), (3, 4), (5, 6)])
        inbox.take(8, [0, 0])
        self.assertEqual(inbox.told_runs(), [(7, 10), (3, 4), (5, 6)])

    def test_a_run_that_the_latest_bytes_join(self):
        inbox = Inbox(40)
        inbox.take(3, [0])
        inbox.take(5, [0])
        inbox.take(9, [0])
        inbox.take(4, [0])
        self.assertEqual(inbox.told_runs(), [(3, 6), (9, 10)])

    def test_the_first_stored_byte_of_the_latest_take_decides(self):
        inbox = Inbox(40)
        inbox.take(3, [0])
        inbox.take(8, [0])
        # Offset 3 is stored already; the first byte that is stored here is that of offset 4.
        inbox.take(3, [0, 0])
        self.assertEqual(inbox.told_runs(), [(3, 5), (8, 9)])
        inbox.take(8, [0, 0, 0])
        self.assertEqual(inbox.told_runs(), [(8, 11), (3, 5)])

    def test_the_latest_bytes_lie_below_next_offset(self):
        inbox = Inbox(40)
        inbox.take(9, [0])
        inbox.take(5, [0])
        inbox.take(1, [0])
        self.assertEqual(inbox.told_runs(), [(5, 6), (9, 10)])
        inbox.take(2, [0, 0, 0])
        self.assertEqual((inbox.next_offset, inbox.told_runs()), (6, [(9, 10)]))

    def test_a_take_over_a_run_below_and_one_above(self):
        # The first byte that is stored lies below the new next_offset, so its run is not told.
        inbox = Inbox(40)
        inbox.take(4, [0])
        inbox.take(8, [0])
        inbox.take(6, [0])
        self.assertEqual(inbox.told_runs(), [(6, 7), (4, 5), (8, 9)])
        inbox.take(1, [0, 0, 0])
        self.assertEqual((inbox.next_offset, inbox.told_runs()), (5, [(6, 7), (8, 9)]))

    def test_takes_that_store_nothing_do_not_count(self):
        inbox = Inbox(9)
        inbox.take(3, [0])
        inbox.take(7, [0])
        for offset, data in ((3, [0]), (0, [0]), (20, [0]), (3, [])):
            self.assertEqual(inbox.take(offset, data), 0)
        self.assertEqual(inbox.told_runs(), [(7, 8), (3, 4)])

    def test_at_most_three(self):
        inbox = Inbox(60)
        for offset in (10, 20, 30, 40, 50):
            inbox.take(offset, [0])
        self.assertEqual(inbox.told_runs(), [(50, 51), (10, 11), (20, 21)])
        inbox.take(1, [0])
        self.assertEqual(inbox.told_runs(), [(10, 11), (20, 21), (30, 31)])

    def test_the_list_is_fresh(self):
        inbox = Inbox(9)
        inbox.take(3, [0])
        runs = inbox.told_runs()
        self.assertEqual((runs.__class__, runs[0].__class__), (list, tuple))
        runs.append((5, 6))
        runs[0] = (1, 9)
        self.assertEqual(inbox.told_runs(), [(3, 4)])


class UrgentTest(unittest.TestCase):
    def test_the_greatest_offset_stays(self):
        inbox = Inbox(9)
        for offset, wanted in ((0, 0), (4, 4), (3, 4), (4, 4), (7, 7)):
            self.assertIsNone(inbox.mark_urgent(offset))
            self.assertEqual((inbox.urgent_end, inbox.urgent_count), (wanted, max(0, wanted - 1)))

    def test_reading_uses_up_the_urgent_bytes(self):
        inbox = Inbox(9)
        inbox.take(1, [1, 2, 3, 4, 5])
        inbox.mark_urgent(3)
        found = []
        for _ in range(4):
            found.append(inbox.urgent_count)
            inbox.read(1)
        self.assertEqual((found, inbox.urgent_end), ([2, 1, 0, 0], 3))


class Model:
    """An inbox that keeps every byte in a dict and looks at each offset."""

    def __init__(self, limit):
        self.limit, self.stored, self.following, self.done, self.final, self.latest = limit, {}, 1, 0, None, 0

    def take(self, offset, data):
        stop = max(self.following, self.done + 1 + self.limit)
        if self.final is not None:
            stop = min(stop, self.final)
        new = [at for at in range(offset, offset + len(data)) if self.following <= at < stop and at not in self.stored]
        for at in new:
            self.stored[at] = data[at - offset]
        if new:
            self.latest = new[0]
        while self.following in self.stored:
            self.following += 1
        return len(new)

    def told_runs(self):
        runs = []
        for at in sorted([at for at in self.stored if at > self.following]):
            if runs and runs[-1][1] == at:
                runs[-1] = (runs[-1][0], at + 1)
            else:
                runs.append((at, at + 1))
        first = [run for run in runs if run[0] <= self.latest < run[1]]
        return (first + [run for run in runs if run not in first])[:3]

    def finish(self, offset):
        """True unless the offset is refused."""
        if self.final is None and offset <= max([self.following - 1, *self.stored]):
            return False
        self.final = offset if self.final is None else self.final
        return True


class StreamTest(unittest.TestCase):
    """Any cuts, order and repetition."""

    def play(self, random):
        limit = random.randint(1, 20)
        inbox, model = Inbox(limit), Model(limit)
        stream = [random.randint(0, 255) for _ in range(30)]
        done = []
        for _ in range(80):
            offset = random.randint(0, 31)
            cut = [9, *stream][offset:offset + random.choice((0, 1, 2, 3, 6))]
            self.assertEqual(inbox.take(offset, cut), model.take(offset, cut))
            self.assertEqual(inbox.told_runs(), model.told_runs())
            if random.random() < 0.03:
                offset = random.randint(0, 31)
                if model.finish(offset):
                    inbox.finish(offset)
                else:
                    self.assertEqual(caught(InvalidNumber, inbox.finish, offset), {"number": offset})
            if random.random() < 0.1:
                inbox.limit = model.limit = random.randint(1, 20)
            done += inbox.read(random.randint(0, 3))
            model.done = len(done)
            self.assertEqual(done, stream[:len(done)])
            self.assertEqual((inbox.next_offset, inbox.read_offset, inbox.final),
                             (model.following, len(done) + 1, model.final))
        return inbox, stream if model.final is None else stream[:model.final - 1], done

    def test_what_is_read_is_a_prefix_and_at_last_the_whole(self):
        random = Random(5)
        for _ in range(150):
            inbox, stream, done = self.play(random)
            while len(done) < len(stream):
                inbox.take(inbox.next_offset, stream[inbox.next_offset - 1:])
                done += inbox.read(50)
            inbox.finish(len(stream) + 1)
            self.assertEqual((done, inbox.ended, inbox.ready), (stream, True, 0))


if __name__ == "__main__":
    unittest.main()
