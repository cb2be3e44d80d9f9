"""lossway.spans: promises 15 to 17."""

import unittest
from itertools import product
from random import Random
from unittest.mock import ANY

from lossway.errors import InvalidNumber
from lossway.spans import Spans
from tests.values import NOT_INTEGERS, NOT_SEQUENCES, caught

WIDTH = 7
FAR = 10 ** 12
# All sets of the offsets from 0 to 6.
ALL_SETS = [frozenset([at for at, inside in enumerate(row) if inside]) for row in product((0, 1), repeat=WIDTH)]
NO_RUNS = (
    (), (1,), (1, 2, 3), (2, 1), (-1, 1), (-2, -1), (1, 0), [5, 4],
    *[(wrong, 1) for wrong in NOT_INTEGERS], *[(1, wrong) for wrong in NOT_INTEGERS],
)


def spans_of(offsets):
    return Spans(*[(at, at + 1) for at in offsets])


def runs_of(offsets):
    """The runs of a set of offsets, found by looking at each of them."""
    runs = []
    for at in sorted(offsets):
        if runs and runs[-1][1] == at:
            runs[-1] = (runs[-1][0], at + 1)
        else:
            runs.append((at, at + 1))
    return runs


class MakeTest(unittest.TestCase):
    def test_example(self):
        one = Spans((5, 8), (1, 3), (3, 4))
        found = [one.rows(), list(one.gaps(0, 10)), one.highest(4), (one - Spans((2, 6))).rows(), len(one), one.total()]
        self.assertEqual(found, [[(1, 4), (5, 8)], [(0, 1), (4, 5), (8, 10)], 3, [(1, 2), (6, 8)], 2, 6])

    def test_pairs_that_touch_overlap_or_are_empty(self):
        for pairs, rows in (
            ((), []),
            (((0, 0),), []),
            (((5, 5), (3, 3)), []),
            (((1, 3), (3, 5)), [(1, 5)]),
            (((3, 5), (1, 3)), [(1, 5)]),
            (((1, 3), (4, 5)), [(1, 3), (4, 5)]),
            (((1, 4), (2, 6)), [(1, 6)]),
            (((1, 9), (2, 3)), [(1, 9)]),
            (((2, 3), (1, 9)), [(1, 9)]),
            (((1, 3), (3, 3), (4, 6)), [(1, 3), (4, 6)]),
            (((3, 3), (1, 2), (2, 2)), [(1, 2)]),
            (((8, 9), (0, 1), (4, 5)), [(0, 1), (4, 5), (8, 9)]),
            (((1, 2), (1, 2), (1, 3)), [(1, 3)]),
            (((0, FAR), (FAR + 1, FAR + 2)), [(0, FAR), (FAR + 1, FAR + 2)]),
        ):
            self.assertEqual(Spans(*pairs).rows(), rows)

    def test_lists_and_tuples(self):
        one = Spans([1, 3], (5, 6), [2, 4])
        self.assertEqual(one.rows(), [(1, 4), (5, 6)])
        self.assertEqual([row.__class__ for row in one.rows()], [tuple, tuple])

    def test_pairs_are_copied(self):
        pair = [1, 3]
        one = Spans(pair)
        pair[1] = 9
        self.assertEqual(one.rows(), [(1, 3)])
        self.assertEqual(pair, [1, 9])

    def test_the_first_value_that_is_no_pair_decides(self):
        for wrong in (*NO_RUNS, *NOT_SEQUENCES):
            self.assertIs(caught(InvalidNumber, Spans, wrong)["number"], wrong)
            self.assertIs(caught(InvalidNumber, Spans, (1, 2), wrong, (2, 1))["number"], wrong)

    def test_random_pairs(self):
        random = Random(2)
        for _ in range(500):
            pairs = [sorted((random.randint(0, 12), random.randint(0, 12))) for _ in range(random.randint(0, 5))]
            offsets = {at for low, high in pairs for at in range(low, high)}
            self.assertEqual(Spans(*pairs).rows(), runs_of(offsets))


class OperatorsTest(unittest.TestCase):
    def test_all_pairs_of_small_sets(self):
        sets = [(offsets, spans_of(offsets)) for offsets in ALL_SETS[::3]] + [(ALL_SETS[-1], spans_of(ALL_SETS[-1]))]
        for one, first in sets:
            for two, second in sets:
                self.assertEqual((first | second).rows(), runs_of(one | two))
                self.assertEqual((first & second).rows(), runs_of(one & two))
                self.assertEqual((first - second).rows(), runs_of(one - two))
                self.assertIs(first == second, one == two)

    def test_the_results_are_new_sets(self):
        one, two, none = Spans((1, 5), (7, 9)), Spans((3, 8)), Spans()
        for made in (one | two, one & two, one - two, one | none, one & one, one - none, one | one):
            self.assertIs(made.__class__, Spans)
            made.put(20, 30)
            made.drop(1, 4)
        self.assertEqual((one.rows(), two.rows(), none.rows()), ([(1, 5), (7, 9)], [(3, 8)], []))

    def test_other_values_have_no_operators(self):
        for other in ([(1, 2)], (1, 2), 5, None, {1}):
            for name in ("__or__", "__and__", "__sub__"):
                self.assertIs(getattr(Spans((1, 2)), name)(other), NotImplemented)

    def test_in(self):
        one = Spans((1, 4), (6, 8), (FAR, FAR + 1))
        inside = [at for at in range(-3, 12) if at in one]
        self.assertEqual(inside, [1, 2, 3, 6, 7])
        self.assertIs(1 in one, True)
        self.assertIs(4 in one, False)
        self.assertEqual((FAR in one, FAR + 1 in one), (True, False))
        for other in (*NOT_INTEGERS, (1, 4)):
            self.assertIs(other in one, False, other)

    def test_len_and_total(self):
        for offsets in ALL_SETS:
            one = spans_of(offsets)
            self.assertEqual((len(one), one.total()), (len(runs_of(offsets)), len(offsets)))
        self.assertEqual(Spans((0, FAR), (FAR + 2, FAR + 5)).total(), FAR + 3)

    def test_equal(self):
        self.assertIs(Spans((1, 3), (3, 5)) == Spans((1, 5)), True)
        self.assertIs(Spans((1, 3), (3, 5)) != Spans((1, 5)), False)
        self.assertIs(Spans() == Spans((4, 4)), True)
        self.assertIs(Spans((1, 5)) == Spans((1, 6)), False)
        for other in ([(1, 5)], ((1, 5),), (1, 5), None, 4, ANY, object()):
            self.assertIs(Spans((1, 5)) == other, False)

    def test_rows_are_fresh(self):
        one = Spans((1, 5))
        rows = one.rows()
        rows.append((7, 9))
        rows[0] = (0, 9)
        self.assertEqual(one.rows(), [(1, 5)])


class ChangeTest(unittest.TestCase):
    def test_put_and_drop_on_all_small_sets(self):
        for offsets in ALL_SETS:
            for low in range(WIDTH + 1):
                for high in range(low, WIDTH + 1):
                    more = spans_of(offsets)
                    self.assertIsNone(more.put(low, high))
                    self.assertEqual(more.rows(), runs_of(offsets | set(range(low, high))))
                    less = spans_of(offsets)
                    self.assertIsNone(less.drop(low, high))
                    self.assertEqual(less.rows(), runs_of(offsets - set(range(low, high))))

    def test_put_and_drop_over_many_runs(self):
        one = Spans(*[(at, at + 1) for at in range(0, 200, 2)])
        one.put(51, 150)
        self.assertEqual((len(one), one.total()), (50, 150))
        self.assertEqual(one.holding(100), (50, 151))
        one.drop(10, 195)
        self.assertEqual(one.rows(), [(0, 1), (2, 3), (4, 5), (6, 7), (8, 9), (196, 197), (198, 199)])

    def test_empty_runs_change_nothing(self):
        one = Spans((3, 8))
        for at in (0, 3, 5, 8, 20):
            one.put(at, at)
            one.drop(at, at)
        self.assertEqual(one.rows(), [(3, 8)])

    def test_wrong_runs_are_refused_and_change_nothing(self):
        one = Spans((3, 8))
        for low, high in [pair for pair in NO_RUNS if len(pair) == 2]:
            for call in (one.put, one.drop):
                number = caught(InvalidNumber, call, low, high)["number"]
                self.assertIs(number.__class__, tuple)
                self.assertIs(number[0], low)
                self.assertIs(number[1], high)
        self.assertEqual(one.rows(), [(3, 8)])

    def test_random_changes(self):
        random = Random(3)
        for _ in range(40):
            one, offsets = Spans(), set()
            for _ in range(40):
                low = random.randint(0, 40)
                high = low + random.choice((0, 1, 2, 5, 20))
                if random.random() < 0.6:
                    one.put(low, high)
                    offsets |= set(range(low, high))
                else:
                    one.drop(low, high)
                    offsets -= set(range(low, high))
                self.assertEqual(one.rows(), runs_of(offsets))

    def test_the_work_does_not_grow_with_the_offsets(self):
        one = Spans((0, FAR), (2 * FAR, 3 * FAR))
        one.put(FAR - 5, FAR + 5)
        one.drop(7, FAR // 2)
        self.assertEqual(one.rows(), [(0, 7), (FAR // 2, FAR + 5), (2 * FAR, 3 * FAR)])
        self.assertEqual((one & Spans((5, 2 * FAR + 1))).total(), 2 + FAR // 2 + 5 + 1)
        self.assertEqual((one - Spans((5, 2 * FAR + 1))).total(), 5 + FAR - 1)
        self.assertEqual((one | Spans((5, 2 * FAR + 1))).rows(), [(0, 3 * FAR)])
        self.assertEqual(one.highest(FAR + 1), FAR + 4)
        self.assertEqual(list(one.gaps(0, FAR)), [(7, FAR // 2)])
        self.assertEqual((one.holding(3 * FAR - 1), 8 in one), ((2 * FAR, 3 * FAR), False))


class AskTest(unittest.TestCase):
    def test_holding(self):
        for offsets in ALL_SETS:
            one = spans_of(offsets)
            for at in range(-1, WIDTH + 2):
                runs = [run for run in runs_of(offsets) if run[0] <= at < run[1]]
                self.assertEqual(one.holding(at), runs[0] if runs else None)

    def test_no_run_has_what_is_no_integer(self):
        for other in NOT_INTEGERS:
            self.assertIsNone(Spans((0, 8)).holding(other))

    def test_gaps(self):
        for offsets in ALL_SETS:
            one = spans_of(offsets)
            for low in range(-1, WIDTH + 2):
                for high in range(-1, WIDTH + 3):
                    wanted = runs_of(set(range(low, high)) - offsets)
                    self.assertEqual(list(one.gaps(low, high)), wanted)

    def test_gaps_are_yielded(self):
        gaps = Spans((2, 3)).gaps(0, 5)
        self.assertIs(iter(gaps), gaps)
        self.assertEqual([next(gaps), next(gaps), next(gaps, None)], [(0, 2), (3, 5), None])

    def test_gaps_over_an_empty_range(self):
        for low, high in ((0, 0), (5, 5), (7, 3), (0, -4), (20, 0)):
            self.assertEqual(list(Spans((2, 6)).gaps(low, high)), [])
            self.assertEqual(list(Spans().gaps(low, high)), [])

    def test_highest(self):
        for offsets in ALL_SETS:
            one = spans_of(offsets)
            ranked = sorted(offsets, reverse=True)
            for count in range(1, WIDTH + 3):
                wanted = ranked[count - 1] if count <= len(ranked) else None
                self.assertEqual(one.highest(count), wanted)

    def test_highest_refuses_other_counts(self):
        for count in (0, -1, *NOT_INTEGERS):
            self.assertIs(caught(InvalidNumber, Spans((0, 9)).highest, count)["number"], count)
            self.assertIs(caught(InvalidNumber, Spans().highest, count)["number"], count)


if __name__ == "__main__":
    unittest.main()
