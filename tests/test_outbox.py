"""lossway.outbox: promises 18 to 20."""

import unittest
from random import Random

from lossway.errors import InvalidNumber, InvalidSetting, NotAllowed
from lossway.outbox import Outbox
from tests.values import NOT_INTEGERS, NOT_SEQUENCES, caught


def look(outbox):
    """All that can be asked an outbox."""
    return (outbox.limit, outbox.base, outbox.end, outbox.closed, outbox.urgent_end, outbox.free, outbox.bound,
            outbox.cut(outbox.base, outbox.end))


def filled(limit, data, released):
    outbox = Outbox(limit)
    outbox.put(data)
    outbox.release(released)
    return outbox


class LimitTest(unittest.TestCase):
    def test_a_new_outbox(self):
        for limit in (1, 2, 64, 65535):
            self.assertEqual(look(Outbox(limit)), (limit, 1, 1, False, 0, limit, 1, ()))

    def test_wrong_limits(self):
        outbox = filled(4, (5, 6, 7), 2)
        before = look(outbox)
        for limit in (0, -1, 65536, 10 ** 12, *NOT_INTEGERS):
            self.assertEqual(caught(InvalidSetting, Outbox, limit), {"setting": "limit"})
            self.assertEqual(caught(InvalidSetting, outbox.resize, limit), {"setting": "limit"})
            with self.assertRaises(InvalidSetting) as found:
                outbox.limit = limit
            self.assertEqual(vars(found.exception), {"setting": "limit"})
            self.assertEqual(look(outbox), before)

    def test_another_limit(self):
        outbox = filled(4, (5, 6, 7), 2)
        self.assertEqual(outbox.free, 2)
        for limit, free in ((65535, 65533), (1, 0), (2, 0), (3, 1)):
            self.assertIsNone(outbox.resize(limit))
            self.assertEqual((outbox.limit, outbox.free), (limit, free))
            outbox.resize(9)
            outbox.limit = limit
            self.assertEqual((outbox.limit, outbox.free), (limit, free))

    def test_a_lower_limit_drops_nothing(self):
        outbox = filled(6, (5, 6, 7, 8, 9, 10), 2)
        outbox.resize(2)
        self.assertEqual((outbox.free, outbox.cut(2, 7), outbox.end), (0, (6, 7, 8, 9, 10), 7))
        self.assertEqual((outbox.put([1]), outbox.urge([1]), outbox.end, outbox.urgent_end), (0, 0, 7, 0))
        outbox.release(5)
        self.assertEqual((outbox.free, outbox.put([1])), (0, 0))
        outbox.release(6)
        self.assertEqual((outbox.free, outbox.put([1, 2]), outbox.cut(6, 8)), (1, 1, (10, 1)))


class PutTest(unittest.TestCase):
    def test_example(self):
        outbox = Outbox(4)
        count = outbox.put([1, 2, 3, 4, 5])
        forgotten = outbox.release(3)
        found = [count, forgotten, outbox.base, outbox.end, outbox.free, outbox.cut(3, 5), outbox.bound]
        self.assertEqual(found, [4, 2, 3, 5, 2, (3, 4), 5])

    def test_as_many_as_are_free(self):
        outbox = Outbox(5)
        self.assertEqual((outbox.put((1, 2)), outbox.end, outbox.free), (2, 3, 3))
        self.assertEqual((outbox.put([]), outbox.put(()), outbox.end), (0, 0, 3))
        self.assertEqual((outbox.put([3, 4, 5, 6, 7]), outbox.end, outbox.free), (3, 6, 0))
        self.assertEqual((outbox.put([8]), outbox.end), (0, 6))
        self.assertEqual(outbox.cut(1, 6), (1, 2, 3, 4, 5))
        self.assertEqual((outbox.urgent_end, outbox.base), (0, 1))

    def test_all_bytes(self):
        outbox = Outbox(65535)
        data = [at % 256 for at in range(70000)]
        self.assertEqual((outbox.put(data), outbox.end, outbox.free), (65535, 65536, 0))
        self.assertEqual(outbox.cut(1, 65536), tuple(data[:65535]))

    def test_urge(self):
        outbox = Outbox(4)
        self.assertEqual((outbox.urge([]), outbox.urgent_end), (0, 0))
        self.assertEqual((outbox.urge([1, 2]), outbox.urgent_end), (2, 3))
        self.assertEqual((outbox.put([3]), outbox.urgent_end, outbox.end), (1, 3, 4))
        self.assertEqual((outbox.urge([]), outbox.urgent_end), (0, 3))
        self.assertEqual((outbox.urge((4, 5, 6)), outbox.urgent_end, outbox.end), (1, 5, 5))
        self.assertEqual((outbox.urge([7]), outbox.urgent_end), (0, 5))
        self.assertEqual(outbox.cut(1, 5), (1, 2, 3, 4))
        outbox.release(5)
        self.assertEqual(outbox.urgent_end, 5)

    def test_lists_are_copied_and_not_changed(self):
        data = [1, 2, 3]
        outbox = Outbox(2)
        outbox.put(data)
        self.assertEqual(data, [1, 2, 3])
        data[0] = 9
        data.clear()
        self.assertEqual(outbox.cut(1, 3), (1, 2))

    def test_wrong_data(self):
        outbox = filled(8, (1, 2), 2)
        before = look(outbox)
        for call in (outbox.put, outbox.urge):
            for value in NOT_SEQUENCES:
                self.assertIs(caught(InvalidNumber, call, value)["number"], value)
            for wrong in (-1, 256, *NOT_INTEGERS):
                self.assertIs(caught(InvalidNumber, call, [0, 255, wrong, -5])["number"], wrong)
                self.assertIs(caught(InvalidNumber, call, (wrong,))["number"], wrong)
        self.assertEqual(look(outbox), before)

    def test_bytes_that_do_not_fit_are_checked_too(self):
        outbox = Outbox(1)
        self.assertEqual(caught(InvalidNumber, outbox.put, [1, 2, 256]), {"number": 256})
        outbox.put([1])
        self.assertEqual(caught(InvalidNumber, outbox.put, [300]), {"number": 300})


class ShutTest(unittest.TestCase):
    def test_shut(self):
        outbox = filled(8, (1, 2, 3), 2)
        self.assertEqual((outbox.closed, outbox.bound), (False, 4))
        for _ in range(2):
            self.assertIsNone(outbox.shut())
            self.assertEqual(look(outbox), (8, 2, 4, True, 0, 6, 5, (2, 3)))

    def test_an_empty_outbox(self):
        outbox = Outbox(8)
        outbox.shut()
        self.assertEqual((outbox.closed, outbox.bound, outbox.end), (True, 2, 1))

    def test_closed_comes_before_all_other_errors(self):
        outbox = Outbox(8)
        outbox.put([1, 2])
        outbox.shut()
        before = look(outbox)
        for call in (outbox.put, outbox.urge):
            for data in ([], [3], [256], [True], None, "abc"):
                self.assertEqual(caught(NotAllowed, call, data), {"state": "closed"})
        self.assertEqual(look(outbox), before)

    def test_what_else_a_closed_outbox_does(self):
        outbox = Outbox(8)
        outbox.put([1, 2])
        outbox.shut()
        outbox.resize(3)
        self.assertEqual((outbox.free, outbox.cut(1, 3), outbox.release(3), outbox.free, outbox.bound),
                         (1, (1, 2), 2, 3, 4))


class CutTest(unittest.TestCase):
    def test_cut(self):
        outbox = filled(8, (10, 11, 12, 13, 14), 3)
        for low in range(3, 7):
            for high in range(low, 7):
                cut = outbox.cut(low, high)
                self.assertIs(cut.__class__, tuple)
                self.assertEqual(cut, tuple(range(9 + low, 9 + high)))
        self.assertEqual((outbox.base, outbox.end), (3, 6))

    def test_the_first_wrong_argument_decides(self):
        outbox = filled(8, (10, 11, 12, 13, 14), 3)
        for low in (2, 7, 0, -1, *NOT_INTEGERS):
            self.assertIs(caught(InvalidNumber, outbox.cut, low, 99)["number"], low)
            self.assertIs(caught(InvalidNumber, outbox.cut, low, 6)["number"], low)
        for high in (3, 7, 0, -1, *NOT_INTEGERS):
            self.assertIs(caught(InvalidNumber, outbox.cut, 4, high)["number"], high)

    def test_release(self):
        outbox = filled(5, (10, 11, 12, 13, 14), 1)
        self.assertEqual((outbox.release(1), outbox.base, outbox.free), (0, 1, 0))
        self.assertEqual((outbox.release(3), outbox.base, outbox.free), (2, 3, 2))
        self.assertEqual((outbox.cut(3, 6), outbox.end), ((12, 13, 14), 6))
        self.assertEqual((outbox.release(6), outbox.base, outbox.free), (3, 6, 5))
        self.assertEqual((outbox.release(6), outbox.cut(6, 6), outbox.put([7]), outbox.cut(6, 7)), (0, (), 1, (7,)))

    def test_release_refuses_other_offsets(self):
        outbox = filled(8, (10, 11, 12, 13, 14), 3)
        before = look(outbox)
        for offset in (2, 7, 1, 0, -1, *NOT_INTEGERS):
            self.assertIs(caught(InvalidNumber, outbox.release, offset)["number"], offset)
        self.assertEqual(look(outbox), before)

    def test_random_calls(self):
        random = Random(4)
        for _ in range(60):
            outbox, stream, base, limit = Outbox(7), [], 1, 7
            for _ in range(30):
                data = [random.randint(0, 255) for _ in range(random.randint(0, 5))]
                count = max(0, min(len(data), limit - (len(stream) + 1 - base)))
                self.assertEqual(outbox.put(data), count)
                stream += data[:count]
                offset = random.randint(base, len(stream) + 1)
                self.assertEqual(outbox.release(offset), offset - base)
                base = offset
                limit = random.randint(1, 9)
                outbox.resize(limit)
                self.assertEqual((outbox.base, outbox.end), (base, len(stream) + 1))
                self.assertEqual(outbox.cut(base, outbox.end), tuple(stream[base - 1:]))


if __name__ == "__main__":
    unittest.main()
