"""Desks: deeds, undo and redo, all or none, trials, twins, and other settings."""

import copy
import unittest
from random import Random

from lossway.desk import Desk
from lossway.errors import (
    InvalidDeed, InvalidFate, InvalidNumber, InvalidSetting, LossError, NoConnection, NothingLeft, PortTaken,
    StationDown, Stopped,
)
from lossway.settings import Settings
from lossway.world import World
from tests.values import NOT_INTEGERS, NOT_SEQUENCES, NOT_STRINGS, Same, caught
from tests.worlds import drawn_fate, look

LISTEN = ("call", 1, "listen", (80,), ())
CONNECT = ("call", 0, "connect", (80,), ())
ACCEPT = ("call", 1, "accept", (80,), ())
WRITE = ("call", 0, "write", (1, (1, 2, 3)), ())
READ = ("call", 1, "read", (1, 9), ())
DEEDS = (LISTEN, CONNECT, ("tick", 3), ACCEPT, ("fate", 0, ()), WRITE, ("tick", 30), ("fate", 1, (2, (3, 4, 5))), READ)


def desk_with(*deeds, **choices):
    made = Desk(Settings(), Settings(), **choices)
    for deed in deeds:
        made.do(deed)
    return made


def state(desk):
    """All that can be asked of a desk; what can be redone is tried out on a twin."""
    other = desk.twin()
    redone = []
    while True:
        try:
            redone.append(other.redo())
        except NothingLeft:
            return (look(desk.world), desk.deeds(), len(desk), redone, desk.copies, desk.girth)


class MadeTest(unittest.TestCase):
    def test_attributes(self):
        first, second = Settings(), Settings(piece=5)
        desk = Desk(first, second, copies=3, girth=9)
        self.assertEqual((desk.first, desk.second, desk.copies, desk.girth), (first, second, 3, 9))
        self.assertIsInstance(desk.world, World)
        self.assertEqual((desk.world.net.copies, desk.world.net.girth, desk.world.now), (3, 9, 0))
        self.assertEqual([station.settings for station in desk.world.stations], [first, second])
        self.assertEqual((len(desk), desk.deeds()), (0, []))
        plain = Desk(first, second)
        self.assertEqual((plain.copies, plain.girth), (2, 1400))

    def test_errors_of_the_world(self):
        right = Settings()
        for first, second, choices, name in (
            (right, Settings(size=512), {}, "size"), (Settings(life=7), right, {"copies": 0}, "life"),
            (right, right, {"copies": 9, "girth": 0}, "copies"), (right, right, {"girth": 0}, "girth"),
            (None, right, {}, "settings"), (right, right, {"copies": True}, "copies"),
        ):
            self.assertEqual(caught(InvalidSetting, Desk, first, second, **choices), {"setting": name})


class DoTest(unittest.TestCase):
    def test_results(self):
        desk = Desk(Settings(), Settings())
        results = [desk.do(deed) for deed in DEEDS]
        self.assertEqual(results, [None, 1, None, 1, None, 3, None, None, (1, 2, 3)])
        self.assertEqual(desk.deeds(), list(DEEDS))
        self.assertEqual(len(desk), len(DEEDS))

    def test_deeds_do_what_the_world_does(self):
        desk = desk_with(LISTEN, CONNECT, ("tick", 3), ACCEPT, ("fate", 0, [[4, 17, 1], 3]), WRITE, ("tick", 3), READ)
        world = World(Settings(), Settings())
        world.call(1, "listen", 80)
        world.call(0, "connect", 80)
        world.advance(3)
        world.call(1, "accept", 80)
        world.net.add_fate(0, ((4, 17, 1), 3))
        world.call(0, "write", 1, [1, 2, 3])
        world.advance(3)
        self.assertEqual(world.call(1, "read", 1, 9), (1, 2, 3))
        self.assertEqual(look(desk.world), look(world))

    def test_deeds_are_kept_as_tuples(self):
        desk = Desk(Settings(), Settings())
        data = [1, 2]
        fate = [1, [2, 3, 4]]
        deeds = [["call", 0, "connect", [80], [["source", 7], ["first", None]]], ["fate", 1, fate], ["tick", 0],
                 ["call", 0, "write", [1, data], []], ["call", 1, "listen", (80,), [("backlog", 1)]]]
        before = copy.deepcopy(deeds)
        for deed in deeds:
            desk.do(deed)
        self.assertEqual(deeds, before)
        data.append(3)
        fate.clear()
        kept = [("call", 0, "connect", (80,), (("first", None), ("source", 7))), ("fate", 1, (1, (2, 3, 4))),
                ("tick", 0), ("call", 0, "write", (1, (1, 2)), ()), ("call", 1, "listen", (80,), (("backlog", 1),))]
        self.assertEqual(desk.deeds(), kept)
        self.assertIsInstance(desk.deeds()[1][2], tuple)
        self.assertIsInstance(desk.deeds()[1][2][1], tuple)
        found = desk.deeds()
        found.clear()
        self.assertEqual(len(desk.deeds()), 5)

    def test_ticks(self):
        desk = Desk(Settings(), Settings())
        for count in (0, 1, 1000):
            desk.do(("tick", count))
        self.assertEqual(desk.world.now, 1001)

    def wrong_forms(self):
        yield from NOT_SEQUENCES
        yield from ((), [], ("tick",), ("tick", 1, 2), ("tock", 1), ("Tick", 1), ("tick", -1), ("tick", 1001), ("",))
        yield from [("tick", count) for count in NOT_INTEGERS]
        yield from [(kind, 1) for kind in (*NOT_STRINGS, Same())]
        yield from (("tock", 0, "crash", (), ()), (Same(), 0, "crash", (), ()), ("tock", 0, ()))
        yield from (("fate",), ("fate", 0), ("fate", 0, (), ()), ("call",), ("call", 0, "crash", ()))
        yield from (("call", 0, "crash", (), (), ()), ("call", "crash", (), ()))
        for value in NOT_SEQUENCES:
            yield ("call", 0, "crash", value, ())
            yield ("call", 0, "crash", (), value)
            yield ("call", 0, "listen", (80,), (value,))
        for name in NOT_STRINGS:
            yield ("call", 0, name, (), ())
            yield ("call", 0, "listen", (80,), ((name, 1),))
        yield ("call", 0, "listen", (80,), (("backlog",),))
        yield ("call", 0, "listen", (80,), (("backlog", 1, 2),))
        yield ("call", 0, "listen", (80,), (("backlog", 1), ("backlog", 1)))
        yield ("call", 0, "listen", (80,), (("x", 1), ("backlog", 1), ("x", 2)))

    def test_wrong_forms(self):
        desk = desk_with(LISTEN, CONNECT)
        desk.undo()
        before = state(desk)
        for deed in self.wrong_forms():
            self.assertIs(caught(InvalidDeed, desk.do, deed)["deed"], deed)
        self.assertEqual(state(desk), before)
        self.assertEqual(len(before[3]), 1)

    def test_the_form_is_looked_at_while_a_station_is_down(self):
        desk = desk_with(("call", 0, "crash", (), ()))
        for deed in (("call", 0, "write", 5, ()), ("call", 0, 5, (), ()), ("call", 0, "write", (1, 2), ((1, 2),))):
            self.assertIs(caught(InvalidDeed, desk.do, deed)["deed"], deed)
        self.assertEqual(caught(StationDown, desk.do, ("call", 0, "write", (1, 2), ())), {})

    def test_errors_of_the_world(self):
        desk = desk_with(LISTEN, CONNECT)
        desk.undo()
        before = state(desk)
        for deed, error, told in (
            (("call", 2, "listen", (80,), ()), InvalidNumber, {"number": 2}),
            (("call", [1], "listen", (80,), ()), InvalidNumber, {"number": (1,)}),
            (("call", 0, "status", (1,), ()), InvalidDeed, {"deed": "status"}),
            (("call", 0, "", (), ()), InvalidDeed, {"deed": ""}),
            (("call", 0, "listen", (), ()), InvalidDeed, {"deed": "listen"}),
            (("call", 0, "write", (1,), ()), InvalidDeed, {"deed": "write"}),
            (("call", 0, "listen", (80,), (("first", 1),)), InvalidDeed, {"deed": "listen"}),
            (("call", 0, "listen", (80,), (("self", 1),)), InvalidDeed, {"deed": "listen"}),
            (("call", 0, "listen", (80,), (("side", 1), ("name", 2))), InvalidDeed, {"deed": "listen"}),
            (("call", 0, "connect", (80,), (("target", 1),)), InvalidDeed, {"deed": "connect"}),
            (("call", 1, "listen", (80,), ()), PortTaken, {"port": 80}),
            (("call", 0, "read", (1, 5), ()), NoConnection, {"handle": 1}),
            (("call", 0, "read", ([1], 5), ()), NoConnection, {"handle": (1,)}),
            (("fate", 2, ()), InvalidNumber, {"number": 2}), (("fate", True, ()), InvalidNumber, {"number": True}),
            (("fate", None, None), InvalidNumber, {"number": None}),
            (("fate", 0, None), InvalidFate, {"side": 0, "place": 0}),
            (("fate", 1, (9,)), InvalidFate, {"side": 1, "place": 0}),
            (("fate", 1, (1, 1, 1)), InvalidFate, {"side": 1, "place": 0}),
            (("fate", 1, ((1, 2),)), InvalidFate, {"side": 1, "place": 0}),
        ):
            self.assertEqual(caught(error, desk.do, deed), told, deed)
        self.assertEqual(state(desk), before)
        self.assertEqual(before[3], [CONNECT])


class UndoTest(unittest.TestCase):
    def test_to_both_ends(self):
        desk = Desk(Settings(), Settings())
        looks = [look(desk.world)]
        for deed in DEEDS:
            desk.do(deed)
            looks.append(look(desk.world))
        for count in reversed(range(len(DEEDS))):
            self.assertEqual(desk.undo(), DEEDS[count])
            self.assertEqual(look(desk.world), looks[count])
            self.assertEqual((desk.deeds(), len(desk)), (list(DEEDS[:count]), count))
        self.assertEqual(caught(NothingLeft, desk.undo), {})
        for count, deed in enumerate(DEEDS):
            self.assertEqual(desk.redo(), deed)
            self.assertEqual(look(desk.world), looks[count + 1])
            self.assertEqual((desk.deeds(), len(desk)), (list(DEEDS[:count + 1]), count + 1))
        self.assertEqual(caught(NothingLeft, desk.redo), {})

    def test_nothing_to_undo_or_redo(self):
        desk = Desk(Settings(), Settings())
        before = state(desk)
        caught(NothingLeft, desk.undo)
        caught(NothingLeft, desk.redo)
        self.assertEqual(state(desk), before)

    def test_the_world_of_before_does_not_change(self):
        desk = desk_with(*DEEDS)
        world = desk.world
        before = look(world)
        desk.undo()
        self.assertIsNot(desk.world, world)
        desk.do(("tick", 5))
        desk.undo()
        desk.undo()
        self.assertEqual(look(world), before)

    def test_do_and_redo_lead_the_same_world_on(self):
        desk = desk_with(LISTEN, CONNECT)
        desk.undo()
        world = desk.world
        desk.redo()
        desk.do(("tick", 3))
        self.assertIs(desk.world, world)
        self.assertEqual(world.now, 3)

    def test_a_new_deed_forgets_what_could_be_redone(self):
        desk = desk_with(*DEEDS)
        desk.undo()
        desk.undo()
        desk.do(("tick", 0))
        caught(NothingLeft, desk.redo)
        self.assertEqual(desk.deeds(), [*DEEDS[:-2], ("tick", 0)])

    def test_a_refused_deed_leaves_what_could_be_redone(self):
        desk = desk_with(*DEEDS)
        desk.undo()
        caught(NoConnection, desk.do, ("call", 0, "close", (7,), ()))
        caught(InvalidDeed, desk.do, ("tick",))
        self.assertEqual(desk.redo(), DEEDS[-1])

    def test_what_is_done_at_the_world_is_not_the_desks(self):
        desk = desk_with(LISTEN, ("tick", 2))
        desk.world.advance(50)
        desk.world.call(0, "connect", 80)
        self.assertEqual(desk.deeds(), [LISTEN, ("tick", 2)])
        desk.undo()
        self.assertEqual(look(desk.world), look(desk_with(LISTEN).world))
        self.assertEqual(desk.redo(), ("tick", 2))
        self.assertEqual(look(desk.world), look(desk_with(LISTEN, ("tick", 2)).world))

    def test_drawn_deeds(self):
        for seed in range(15):
            random = Random(seed)
            desk = Desk(Settings(life=4), Settings(life=4))
            done, undone = [], []
            for _ in range(50):
                kind = random.choice(("do", "do", "do", "undo", "redo"))
                if kind == "do" and self.attempt(desk, drawn_deed(random)):
                    done.append(desk.deeds()[-1])
                    undone = []
                elif kind == "undo" and done:
                    undone.append(desk.undo())
                    self.assertEqual(undone[-1], done.pop())
                elif kind == "redo" and undone:
                    done.append(desk.redo())
                    self.assertEqual(done[-1], undone.pop())
                self.assertEqual(desk.deeds(), done)
            plain = Desk(Settings(life=4), Settings(life=4))
            for deed in done:
                plain.do(deed)
            self.assertEqual(look(desk.world), look(plain.world), seed)

    def attempt(self, desk, deed):
        try:
            desk.do(deed)
        except LossError:
            return False
        return True


def drawn_deed(random):
    side = random.randint(0, 1)
    name = random.choice(("tick", "fate", "listen", "connect", "accept", "write", "read", "close", "abort", "crash",
                          "start", "resize", "forget"))
    handle = random.randint(1, 3)
    if name == "tick":
        return ("tick", random.randint(0, 9))
    if name == "fate":
        return ("fate", side, drawn_fate(random, 4))
    values = {
        "listen": (80,), "connect": (80,), "accept": (80,), "write": (handle, [random.randint(0, 255)] * 5),
        "read": (handle, 9), "crash": (), "start": (), "resize": (handle, 20),
    }
    options = [("first", random.randint(0, 9)), ("source", None)] if name == "connect" else ()
    return ("call", side, name, values.get(name, (handle,)), options)


class DoAllTest(unittest.TestCase):
    def test_results(self):
        desk, other = Desk(Settings(), Settings()), Desk(Settings(), Settings())
        world = desk.world
        self.assertEqual(desk.do_all(list(DEEDS)), [other.do(deed) for deed in DEEDS])
        self.assertEqual(state(desk), state(other))
        self.assertIs(desk.world, world)

    def test_no_deeds(self):
        desk = desk_with(*DEEDS)
        desk.undo()
        before = state(desk)
        self.assertEqual(desk.do_all([]), [])
        self.assertEqual(desk.do_all(()), [])
        self.assertEqual(state(desk), before)
        self.assertEqual(desk.redo(), DEEDS[-1])

    def test_new_deeds_forget_what_could_be_redone(self):
        desk = desk_with(*DEEDS)
        desk.undo()
        desk.do_all((("tick", 1),))
        caught(NothingLeft, desk.redo)

    def test_it_stops_at_the_first_error(self):
        for place in range(4):
            for wrong, cause in (
                (("tick", -1), InvalidDeed), (5, InvalidDeed), (("fate", 0, 5), InvalidFate),
                (("call", 0, "read", (9, 9), ()), NoConnection), (("call", 3, "read", (9, 9), ()), InvalidNumber),
            ):
                desk = desk_with(LISTEN, CONNECT, ("tick", 2))
                desk.undo()
                before, world = state(desk), desk.world
                deeds = [("tick", 1), ("fate", 0, ()), ("call", 0, "write", (1, (7,)), ())]
                deeds.insert(place, wrong)
                with self.assertRaises(Stopped) as raised:
                    desk.do_all([*deeds, ("tick", -5)])
                self.assertEqual(raised.exception.place, place)
                self.assertIsInstance(raised.exception.__cause__, cause)
                self.assertEqual(state(desk), before)
                self.assertIs(desk.world, world)
                self.assertEqual(desk.redo(), ("tick", 2))

    def test_each_deed_is_checked_when_its_turn_comes(self):
        desk = Desk(Settings(), Settings())
        deeds = [LISTEN, LISTEN, 5]
        with self.assertRaises(Stopped) as raised:
            desk.do_all(deeds)
        self.assertEqual((raised.exception.place, raised.exception.__cause__.port), (1, 80))
        # What a deed needs may be the work of an earlier one.
        self.assertEqual(desk.do_all([CONNECT, WRITE]), [1, 3])

    def test_the_sequence_is_not_changed(self):
        deeds = [["tick", 1], ["call", 0, "connect", [80], [["source", 3]]]]
        before = copy.deepcopy(deeds)
        desk = Desk(Settings(), Settings())
        desk.do_all(deeds)
        desk.trial([["tick", 1]])
        self.assertEqual(deeds, before)


class TrialTest(unittest.TestCase):
    def test_results_and_nothing_else(self):
        desk = desk_with(LISTEN, CONNECT, ("tick", 3))
        desk.undo()
        before, world = state(desk), desk.world
        results = desk.trial([("tick", 3), ACCEPT, WRITE, ("tick", 2), READ])
        self.assertEqual(results, [None, 1, 3, None, (1, 2, 3)])
        self.assertEqual(desk.trial(()), [])
        self.assertEqual(state(desk), before)
        self.assertIs(desk.world, world)
        self.assertEqual(desk.redo(), ("tick", 3))

    def test_an_error_itself_passes(self):
        desk = desk_with(LISTEN, CONNECT)
        desk.undo()
        before = state(desk)
        for wrong, error, told in ((LISTEN, PortTaken, {"port": 80}), (7, InvalidDeed, {"deed": 7}),
                                   (("fate", 1, (99,)), InvalidFate, {"side": 1, "place": 0})):
            deeds = [CONNECT, ("tick", 1), wrong, ("tick", -1)]
            self.assertEqual(caught(error, desk.trial, deeds), told)
            self.assertEqual(state(desk), before)
        self.assertEqual(desk.redo(), CONNECT)


class TwinTest(unittest.TestCase):
    def test_a_twin_is_equal(self):
        desk = desk_with(*DEEDS, copies=4, girth=7)
        desk.undo()
        desk.undo()
        twin = desk.twin()
        self.assertIsInstance(twin, Desk)
        self.assertEqual(state(twin), state(desk))
        self.assertEqual((twin.first, twin.second), (desk.first, desk.second))
        self.assertEqual([twin.redo(), twin.redo()], list(DEEDS[-2:]))
        caught(NothingLeft, twin.redo)

    def test_neither_changes_the_other(self):
        desk = desk_with(*DEEDS)
        desk.undo()
        twin = desk.twin()
        before = state(desk)
        twin.redo()
        twin.do(("tick", 7))
        twin.world.advance(3)
        self.assertEqual(state(desk), before)
        kept = state(twin)
        desk.undo()
        desk.do(("fate", 0, ()))
        self.assertEqual(state(twin), kept)


class WhatIfTest(unittest.TestCase):
    def test_changed_settings(self):
        desk = desk_with(*DEEDS, copies=3, girth=9)
        desk.undo()
        before = state(desk)
        other = desk.what_if(1, inbox=2, delay=0)
        self.assertEqual((other.first, other.second), (Settings(), Settings(inbox=2, delay=0)))
        self.assertEqual((other.copies, other.girth, other.deeds()), (3, 9, desk.deeds()))
        caught(NothingLeft, other.redo)
        self.assertEqual(state(desk), before)
        plain = Desk(Settings(), Settings(inbox=2, delay=0), copies=3, girth=9)
        plain.do_all(desk.deeds())
        self.assertEqual(look(other.world), look(plain.world))
        self.assertNotEqual(look(other.world), look(desk.world))
        self.assertEqual(desk.what_if(0, piece=3, least=1).first, Settings(piece=3, least=1))
        self.assertEqual(look(desk.what_if(0).world), look(desk.world))

    def test_a_deed_that_raises_an_error_there(self):
        desk = desk_with(LISTEN, CONNECT, ("tick", 3), ("call", 0, "resize", (1, 200), ()), ("tick", 1))
        before = state(desk)
        with self.assertRaises(InvalidSetting):
            desk.what_if(0, size=512)
        other = desk_with(CONNECT, ("tick", 1), ("call", 0, "abort", (1,), ()), ("call", 0, "forget", (1,), ()))
        self.assertEqual(len(other.what_if(0, tries=1)), 4)
        # With another outbox the same deeds write less, so that the reader is broken at another place.
        broken = desk_with(LISTEN, CONNECT, ("tick", 3), ACCEPT, WRITE, ("call", 0, "close", (1,), ()), ("tick", 3),
                           ("call", 1, "close", (1,), ()), ("tick", 40), ("call", 0, "resize", (1, 9), ()))
        with self.assertRaises(Stopped) as raised:
            broken.what_if(0, rest=1)
        self.assertEqual((raised.exception.place, raised.exception.__cause__.reason), (9, "done"))
        self.assertEqual(state(desk), before)

    def test_errors_come_before(self):
        desk = desk_with(LISTEN)
        for side in (-1, 2, *NOT_INTEGERS):
            self.assertEqual(caught(InvalidNumber, desk.what_if, side, nothing=1), {"number": side})
        self.assertEqual(caught(InvalidSetting, desk.what_if, 0, zeta=1, alpha=1), {"setting": "zeta"})
        self.assertEqual(caught(InvalidSetting, desk.what_if, 1, low=0), {"setting": "low"})
        self.assertEqual(caught(InvalidSetting, desk.what_if, 0, size=512), {"setting": "size"})
        self.assertEqual(caught(InvalidSetting, desk.what_if, 1, life=9), {"setting": "life"})


if __name__ == "__main__":
    unittest.main()
