"""The judge of ledgers: each rule, and which row and rule decides."""

import copy
import unittest

from lossway.ledgers import unsound
from tests.worlds import drawn_world, open_world

# Two ends that name each other and have both read a beginning of what the other one wrote.
FIRST = (0, 10, 20, (1, 2, 3), (7,))
SECOND = (1, 20, 10, (7, 8), (1, 2))
RIGHT = [FIRST, SECOND]


def row(side, mark, peer, written=(), read=()):
    return (side, mark, peer, written, read)


class SoundTest(unittest.TestCase):
    def test_right_ledgers(self):
        self.assertIsNone(unsound([]))
        self.assertIsNone(unsound(()))
        self.assertIsNone(unsound(RIGHT))
        self.assertIsNone(unsound([SECOND, FIRST]))
        self.assertIsNone(unsound([row(0, 1, None), row(0, 2, None), row(1, 1, None)]))

    def test_lists_and_tuples(self):
        self.assertIsNone(unsound([list(FIRST), list(SECOND)]))
        self.assertIsNone(unsound(([0, 10, 20, [1, 2, 3], [7]], (1, 20, 10, [7, 8], (1, 2)))))
        self.assertEqual(unsound(([0, 10, 20, [1, 2, 3], [8]], [1, 20, 10, [7, 8], [1]])), (0, "prefix"))

    def test_worlds(self):
        world = open_world()
        world.call(0, "write", 1, [1, 2])
        world.advance()
        world.call(1, "read", 1, 1)
        self.assertIsNone(unsound(world.ledger()))
        for seed in range(20):
            self.assertIsNone(unsound(drawn_world(seed)[0].ledger()))

    def test_a_row_that_read_nothing_may_name_anything(self):
        self.assertIsNone(unsound([row(0, 1, 5), row(0, 2, 5), row(0, 3, None), row(0, 4, None)]))
        self.assertIsNone(unsound([FIRST, SECOND, row(0, 11, 20), row(1, 21, 10)]))

    def test_the_ledger_is_not_changed(self):
        ledger = [list(FIRST), list(SECOND), row(0, 10, 5)]
        before = copy.deepcopy(ledger)
        self.assertEqual(unsound(ledger), (2, "mark"))
        self.assertEqual(ledger, before)


class MarkTest(unittest.TestCase):
    def test_the_same_side_and_mark(self):
        self.assertEqual(unsound([row(0, 1, None), row(0, 1, None)]), (1, "mark"))
        self.assertEqual(unsound([row(0, 1, None), row(1, 1, None), row(1, 1, 4)]), (2, "mark"))
        self.assertEqual(unsound([*RIGHT, FIRST]), (2, "mark"))

    def test_the_same_mark_of_the_other_side(self):
        self.assertIsNone(unsound([row(0, 1, None), row(1, 1, None)]))


class PeerTest(unittest.TestCase):
    def test_two_readers_of_one_peer(self):
        self.assertEqual(unsound([*RIGHT, row(0, 11, 20, (), (7,))]), (2, "peer"))
        self.assertEqual(unsound([SECOND, FIRST, row(1, 21, 10, (), (1,))]), (2, "peer"))

    def test_the_readers_may_be_of_two_sides(self):
        ledger = [row(0, 20, 20, (5,), (6,)), row(1, 20, 20, (6,), (5,))]
        self.assertIsNone(unsound(ledger))

    def test_an_earlier_row_that_read_nothing(self):
        self.assertIsNone(unsound([row(0, 9, 20), *RIGHT]))

    def test_unknown_peers(self):
        self.assertEqual(unsound([row(0, 1, None, (), (1,))]), (0, "pair"))
        # The row before breaks a rule itself, and decides.
        self.assertEqual(unsound([row(0, 1, None, (), (1,)), row(0, 2, None, (), (1,))]), (0, "pair"))


class PairTest(unittest.TestCase):
    def test_no_row_of_the_other_side(self):
        self.assertEqual(unsound([row(0, 10, 20, (), (7,))]), (0, "pair"))
        self.assertEqual(unsound([row(0, 10, 20, (), (7,)), row(0, 20, 10, (7,))]), (0, "pair"))

    def test_one_mark_alone_is_right(self):
        for other in (row(1, 20, 11, (7,)), row(1, 20, None, (7,)), row(1, 21, 10, (7,)), row(1, 10, 20, (7,))):
            self.assertEqual(unsound([row(0, 10, 20, (), (7,)), other]), (0, "pair"))
            self.assertEqual(unsound([other, row(0, 10, 20, (), (7,))]), (1, "pair"))

    def test_an_earlier_or_a_later_row(self):
        self.assertIsNone(unsound([row(1, 20, 10, (7,)), row(0, 10, 20, (), (7,))]))
        self.assertIsNone(unsound([row(0, 10, 20, (), (7,)), row(1, 20, 10, (7,))]))


class PrefixTest(unittest.TestCase):
    def test_what_is_no_beginning(self):
        for read in ((8,), (2,), (1, 3), (1, 2, 4), (1, 2, 3, 4), (1, 1, 2), (1, 2, 3, 0)):
            self.assertEqual(unsound([FIRST, row(1, 20, 10, (7, 8), read)]), (1, "prefix"), read)

    def test_beginnings(self):
        for read in ((), (1,), (1, 2), (1, 2, 3)):
            self.assertIsNone(unsound([FIRST, row(1, 20, 10, (7, 8), read)]))

    def test_the_first_such_row_wrote_it(self):
        ledger = [row(1, 20, 10, (7,), (9,)), row(1, 20, 10, (8,)), row(0, 10, 20, (9,), (7,))]
        self.assertEqual(unsound(ledger), (1, "mark"))
        # The second writer breaks a rule as well, but stands behind the row that read.
        ledger = [row(0, 10, 20, (9,), (8,)), row(1, 20, 10, (7,)), row(1, 20, 10, (8,))]
        self.assertEqual(unsound(ledger), (0, "prefix"))


class OrderTest(unittest.TestCase):
    def test_the_first_row_decides(self):
        ledger = [FIRST, row(1, 20, 10, (7, 8), (2,)), FIRST]
        self.assertEqual(unsound(ledger), (1, "prefix"))
        self.assertEqual(unsound([*RIGHT, row(0, 11, 21, (), (1,)), FIRST]), (2, "pair"))

    def test_the_order_of_the_rules(self):
        # The row breaks all rules but "mark", all but "mark" and "peer", and so on.
        self.assertEqual(unsound([*RIGHT, row(0, 10, 20, (), (9,))]), (2, "mark"))
        self.assertEqual(unsound([*RIGHT, row(0, 11, 20, (), (9,))]), (2, "peer"))
        self.assertEqual(unsound([*RIGHT, row(0, 11, 21, (), (9,))]), (2, "pair"))
        self.assertEqual(unsound([*RIGHT, row(1, 21, 11, (3,)), row(0, 11, 21, (), (9,))]), (3, "prefix"))


class ChangedTest(unittest.TestCase):
    def test_each_changed_byte_is_found(self):
        for seed in range(12):
            ledger = drawn_world(seed)[0].ledger()
            for index, (side, mark, peer, written, read) in enumerate(ledger):
                for place in range(0, len(read), 7):
                    bent = (*read[:place], (read[place] + 1) % 256, *read[place + 1:])
                    changed = [*ledger[:index], (side, mark, peer, written, bent), *ledger[index + 1:]]
                    self.assertEqual(unsound(changed), (index, "prefix"))
                if read:
                    changed = [*ledger[:index], (side, mark, 5, written, read), *ledger[index + 1:]]
                    self.assertEqual(unsound(changed)[1], "pair")


if __name__ == "__main__":
    unittest.main()
