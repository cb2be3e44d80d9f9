"""lossway.net: promises 63 to 66."""

import unittest
from random import Random

from lossway.errors import InvalidFate, InvalidNumber, InvalidSetting
from lossway.net import Net
from lossway.segments import Segment
from lossway.words import pack
from tests.values import NOT_INTEGERS, NOT_SEQUENCES, caught

WRONG_SIDES = (-1, 2, 10 ** 12, *NOT_INTEGERS)
WRONG_COPIES = (0, 9, -1, (), (1,), (1, 2), (1, 2, 3, 4), (0, 0, 1), (9, 0, 1), (1, -1, 1), (1, 65536, 1), (1, 0, 0),
                (1, 0, 65536), (True, 0, 1), (1, False, 1), (1, 0, True), ((1,), 0, 1), [1, 2, "3"],
                *[value for value in NOT_INTEGERS if value not in ([], ())])


def words(number, count=0):
    """A list of words that tells its number and carries so many bytes."""
    return pack(Segment(5, 80, seq=number, data=[7] * count))


def numbers(arrivals):
    return [(side, found[8]) for side, found in arrivals]


def sent(net, *sides, now=0):
    """Let the sides send lists that are numbered from 1 on."""
    for number, side in enumerate(sides, 1):
        net.send(side, words(number), now)


class BeginTest(unittest.TestCase):
    def test_attributes(self):
        net = Net(life=8)
        self.assertEqual((net.life, net.copies, net.girth, net.flying, net.sent(0), net.sent(1)), (8, 2, 1400, 0, 0, 0))
        net = Net(life=1000, copies=8, girth=1, plans=[[], []], common=[])
        self.assertEqual((net.life, net.copies, net.girth), (1000, 8, 1))
        net = Net(life=1, copies=1, girth=1400)
        self.assertEqual((net.life, net.copies, net.girth), (1, 1, 1400))

    def test_all_is_passed_by_keyword(self):
        with self.assertRaises(TypeError):
            Net(8)
        with self.assertRaises(TypeError):
            Net()

    def test_wrong_settings(self):
        for name, low, high in (("life", 1, 1000), ("copies", 1, 8), ("girth", 1, 1400)):
            for value in (low - 1, high + 1, -1, *NOT_INTEGERS):
                self.assertEqual(caught(InvalidSetting, Net, **{"life": 8, name: value}), {"setting": name})

    def test_wrong_plans(self):
        for plans in ((), ((),), ((), (), ()), ((), 5), ("", ()), ((), None), ({}, ()), *NOT_SEQUENCES):
            self.assertEqual(caught(InvalidSetting, Net, life=8, plans=plans), {"setting": "plans"})
        for common in NOT_SEQUENCES:
            self.assertEqual(caught(InvalidSetting, Net, life=8, common=common), {"setting": "common"})

    def test_the_first_wrong_argument_decides(self):
        wrong = {"common": 5, "plans": 5, "girth": 0, "copies": 0, "life": 0}
        for name in ("life", "copies", "girth", "plans", "common"):
            self.assertEqual(caught(InvalidSetting, Net, **{"life": 8, **wrong}), {"setting": name})
            del wrong[name]
        self.assertEqual(caught(InvalidSetting, Net, life=8, plans=([5], [5]), common=5), {"setting": "common"})

    def test_valid_fates(self):
        for fate in ((), [], (1,), [8], (1, 8), [(1, 0, 1), [8, 65535, 65535]], ((3, 7, 9), 4)):
            Net(life=8, plans=([fate], (fate,)), common=[fate])
            Net(life=8).add_fate(0, fate)

    def test_wrong_fates(self):
        for copy in WRONG_COPIES:
            plans = ([(1,), [copy]], [])
            self.assertEqual(caught(InvalidFate, Net, life=8, plans=plans), {"side": 0, "place": 1}, copy)
            self.assertEqual(caught(InvalidFate, Net, life=8, plans=([], [[2, copy]])), {"side": 1, "place": 0})
            self.assertEqual(caught(InvalidFate, Net, life=8, common=[(), (), (copy,)]), {"side": 2, "place": 2})
        for fate in NOT_SEQUENCES:
            self.assertEqual(caught(InvalidFate, Net, life=8, plans=([fate], [])), {"side": 0, "place": 0})

    def test_too_many_copies(self):
        for copies in range(1, 9):
            Net(life=8, copies=copies, common=[[1] * copies])
            many = [1] * (copies + 1)
            self.assertEqual(caught(InvalidFate, Net, life=8, copies=copies, common=[many]), {"side": 2, "place": 0})

    def test_the_first_wrong_fate_decides(self):
        plans, common = [[(1,), 5], [5]], [5]
        self.assertEqual(caught(InvalidFate, Net, life=8, plans=plans, common=common), {"side": 0, "place": 1})
        plans[0].pop()
        self.assertEqual(caught(InvalidFate, Net, life=8, plans=plans, common=common), {"side": 1, "place": 0})
        plans[1].pop()
        self.assertEqual(caught(InvalidFate, Net, life=8, plans=plans, common=common), {"side": 2, "place": 0})


class FateTest(unittest.TestCase):
    def test_without_a_plan_a_list_arrives_after_one_tick(self):
        net = Net(life=8)
        sent(net, 0, 1, now=5)
        self.assertEqual((net.flying, net.arrivals(5), net.flying), (2, [], 2))
        found = net.arrivals(6)
        self.assertEqual(found, [(1, words(1)), (0, words(2))])
        self.assertEqual([pair.__class__ for pair in found], [tuple, tuple])
        self.assertEqual([row.__class__ for _, row in found], [list, list])
        self.assertEqual((net.flying, net.arrivals(7)), (0, []))

    def test_a_lost_list(self):
        net = Net(life=8, plans=([(), (1,), []], []))
        sent(net, 0, 0, 0, 0)
        self.assertEqual((net.flying, net.sent(0)), (2, 4))
        self.assertEqual(numbers(net.arrivals(9)), [(1, 2), (1, 4)])

    def test_copies_and_delays(self):
        net = Net(life=8, copies=3, plans=([(3, 1, 8)], []))
        sent(net, 0, now=10)
        self.assertEqual(net.flying, 3)
        for now, wanted in ((10, 0), (11, 1), (12, 0), (13, 1), (17, 0), (18, 1)):
            self.assertEqual(len(net.arrivals(now)), wanted)

    def test_bent_copies(self):
        plain = words(300)
        for place, change in ((8, 1), (0, 65535), (18, 5), (19, 7), (65535, 65535), (46, 2)):
            net = Net(life=8, plans=([[(2, place, change), 2]], []))
            net.send(0, plain, 0)
            bent, other = net.arrivals(2)
            at = place % 19
            wanted = list(plain)
            wanted[at] = (plain[at] + change) % 65536
            self.assertEqual((bent, other), ((1, wanted), (1, plain)))
            self.assertNotEqual(wanted, plain)

    def test_the_place_is_counted_around_all_words(self):
        net = Net(life=8, plans=([], [[(1, 21, 3)], [(1, 22, 3)]]))
        for _ in range(2):
            net.send(1, words(1, 3), 0)
        first, second = [found for _, found in net.arrivals(1)]
        plain = words(1, 3)
        self.assertEqual(first, plain[:21] + [10])
        self.assertEqual(second, [8] + plain[1:])

    def test_each_side_has_its_plan(self):
        net = Net(life=8, plans=([()], [(2,), ()]))
        sent(net, 0, 1, 0, 1, 0, 1)
        self.assertEqual(numbers(net.arrivals(1)), [(1, 3), (1, 5), (0, 6)])
        self.assertEqual(numbers(net.arrivals(2)), [(0, 2)])
        self.assertEqual((net.sent(0), net.sent(1)), (3, 3))

    def test_common_fates_come_before_those_of_a_plan(self):
        net = Net(life=8, plans=([(4,)], [(5,)]), common=[(2,), (), (3,)])
        sent(net, 1, 0, 1, 0, 1, 0, 1)
        found = {}
        for now in range(1, 9):
            for _, number in numbers(net.arrivals(now)):
                found[number] = now
        self.assertEqual(found, {1: 2, 3: 3, 4: 4, 5: 5, 6: 1, 7: 1})

    def test_the_girth(self):
        net = Net(life=8, girth=4, plans=([(1, 2), (1,), (3,)], []), common=[(2,)])
        for count in (5, 4, 5, 5, 3, 5, 1400):
            net.send(0, words(count, count), 0)
        self.assertEqual(net.sent(0), 7)
        self.assertEqual([len(found) - 19 for _, found in net.arrivals(1)], [4, 3])
        self.assertEqual([len(found) - 19 for _, found in net.arrivals(2)], [4])
        self.assertEqual((net.flying, net.arrivals(9)), (0, []))

    def test_the_girth_looks_at_the_word_16(self):
        net = Net(life=8, girth=4)
        net.send(0, [0] * 16 + [5, 0, 0], 0)
        net.send(0, [0] * 16 + [4, 0, 0] + [1] * 90, 0)
        self.assertEqual(net.flying, 1)


class AddFateTest(unittest.TestCase):
    def test_an_appended_fate(self):
        net = Net(life=8, plans=([()], []))
        self.assertIsNone(net.add_fate(0, [(3, 8, 1), 2]))
        net.add_fate(1, ())
        sent(net, 0, 0, 1)
        self.assertEqual(numbers(net.arrivals(8)), [(1, 2), (1, 3)])

    def test_lists_behind_the_end_use_up_no_fate(self):
        net = Net(life=8)
        sent(net, 0, 0)
        net.add_fate(0, ())
        sent(net, 0, 0)
        self.assertEqual(net.flying, 3)

    def test_wrong_fates_tell_the_index_that_they_would_have(self):
        net = Net(life=8, plans=([(), ()], []))
        sent(net, 0, 0, 0, 1)
        self.assertEqual(caught(InvalidFate, net.add_fate, 0, (9,)), {"side": 0, "place": 2})
        self.assertEqual(caught(InvalidFate, net.add_fate, 1, (9,)), {"side": 1, "place": 0})
        net.add_fate(0, ())
        for fate in ((1, 1, 1), *NOT_SEQUENCES, *[[copy] for copy in WRONG_COPIES]):
            self.assertEqual(caught(InvalidFate, net.add_fate, 0, fate), {"side": 0, "place": 3})
        sent(net, 0, 0)
        self.assertEqual((net.flying, net.sent(0)), (3, 5))

    def test_the_side_is_checked_first(self):
        net = Net(life=8)
        for side in WRONG_SIDES:
            self.assertIs(caught(InvalidNumber, net.add_fate, side, 5)["number"], side)


class ArrivalsTest(unittest.TestCase):
    def test_the_order(self):
        net = Net(life=8, plans=([(3,), (1,), (2, 1)], [(2,), (1,)]))
        sent(net, 0, 1, 0, 1, 0)
        # Number 1 and 2 come late; what comes in the same tick has the order of sending.
        self.assertEqual(numbers(net.arrivals(8)), [(1, 3), (0, 4), (1, 5), (0, 2), (1, 5), (1, 1)])

    def test_the_order_over_several_ticks_of_sending(self):
        net = Net(life=8, plans=([(3,), (2,), (1,)], []))
        for number in (1, 2, 3):
            net.send(0, words(number), number)
        self.assertEqual(numbers(net.arrivals(4)), [(1, 1), (1, 2), (1, 3)])

    def test_copies_of_one_list_have_the_order_of_the_fate(self):
        net = Net(life=8, copies=3, plans=([[(2, 8, 5), 2, (2, 8, 9)]], []))
        net.send(0, words(1), 0)
        self.assertEqual(numbers(net.arrivals(2)), [(1, 6), (1, 1), (1, 10)])

    def test_what_is_due_earlier_comes_too(self):
        net = Net(life=8, plans=([(1,), (5,)], []))
        sent(net, 0, 0)
        self.assertEqual(numbers(net.arrivals(4)), [(1, 1)])
        self.assertEqual((net.flying, numbers(net.arrivals(100))), (1, [(1, 2)]))

    def test_a_fair_net_loses_nothing_behind_the_plan(self):
        random = Random(2)
        fates = [[random.randint(1, 8) for _ in range(random.randint(0, 2))] for _ in range(20)]
        net = Net(life=8, plans=(fates, fates))
        for number in range(1, 61):
            net.send(number % 2, words(number), 0)
        found = [number for _, number in numbers(net.arrivals(8))]
        for number in range(41, 61):
            self.assertEqual(found.count(number), 1)


class SideTest(unittest.TestCase):
    def test_wrong_sides(self):
        net = Net(life=8, common=[()])
        for side in WRONG_SIDES:
            self.assertIs(caught(InvalidNumber, net.send, side, words(1), 0)["number"], side)
            self.assertIs(caught(InvalidNumber, net.sent, side)["number"], side)
        self.assertEqual((net.sent(0), net.sent(1), net.flying), (0, 0, 0))
        sent(net, 0)
        self.assertEqual(net.flying, 0)


class CopyTest(unittest.TestCase):
    def test_lists_are_copied_and_not_changed(self):
        fate, bend = [1, [2, 8, 5]], [2, 8, 5]
        fate[1] = bend
        plans, common = [[fate], []], [fate]
        net = Net(life=8, plans=plans, common=common)
        net.add_fate(1, fate)
        row = words(1)
        for side in (0, 0, 1):
            net.send(side, row, 0)
        self.assertEqual((plans, common, row), ([[[1, [2, 8, 5]]], []], [[1, [2, 8, 5]]], words(1)))
        row[8] = 99
        found = net.arrivals(1)
        self.assertEqual(numbers(found), [(1, 1), (1, 1), (0, 1)])
        found[0][1].clear()
        self.assertEqual(numbers(net.arrivals(2)), [(1, 6), (1, 6), (0, 6)])

    def test_later_changes_have_no_effect(self):
        bend = [2, 8, 5]
        fate = [bend]
        plans, common = [[fate], [fate]], [fate]
        net = Net(life=8, plans=plans, common=common)
        net.add_fate(0, fate)
        bend[0] = 1
        fate.clear()
        plans[0].clear()
        plans[1].append(5)
        common.clear()
        for side in (0, 0, 0, 1):
            net.send(side, words(1), 0)
        self.assertEqual(numbers(net.arrivals(8)), [(1, 6), (1, 6), (1, 6), (0, 6)])


if __name__ == "__main__":
    unittest.main()
