"""The call "start" on every way by which a station is called: promises 62 and 68."""

import unittest

from lossway.compare import alike, is_parting, parting
from lossway.desk import Desk
from lossway.errors import InvalidDeed, InvalidNumber, InvalidTrace, NotAllowed, StationDown, Stopped, TooMany
from lossway.plays import Plays
from lossway.records import read_record, write_record
from lossway.replay import replay
from lossway.settings import Settings
from lossway.world import World
from tests.values import OTHERS, caught
from tests.worlds import look, open_world

CRASH = ("call", "crash", (), ())
START = ("call", "start", (), ())
CONNECT = ("call", "connect", (80,), ())
OPTIONS = ("backlog", "source", "first", "era", "start")


def standing(station):
    return (station.era, station.used, station.down)


def deed(event, side=0):
    """The deed of a desk that lets an event happen at a side."""
    kind, *rest = event
    return (kind, side, *rest)


class WorldTest(unittest.TestCase):
    def test_it_starts_a_station_that_is_down(self):
        for side in (0, 1):
            world = open_world()
            station, other = world.stations[side], world.stations[1 - side]
            untouched = standing(other)
            world.call(side, "connect", 90)
            used = station.used
            self.assertGreater(used, 1)
            world.call(side, "crash")
            world.advance(4)
            self.assertEqual(standing(station), (1, used, True))
            now = world.now
            self.assertIsNone(world.call(side, "start"))
            self.assertEqual((standing(station), station.now, world.now), ((2, 0, False), now, now))
            self.assertEqual((station.handles(), world.trace(side)[-1]), ([], START))
            self.assertEqual(standing(other), untouched)

    def test_each_start_is_the_next_era_without_used_marks(self):
        world = World(Settings(), Settings())
        for era in range(1, 6):
            for used in (1, 2, 3):
                handle = world.call(0, "connect", 80)
                self.assertEqual(world.stations[0].connection(handle).mark, era * 65536 + used)
            world.call(0, "crash")
            world.call(0, "start")
            self.assertEqual(standing(world.stations[0]), (era + 1, 0, False))
        self.assertEqual(standing(world.stations[1]), (1, 0, False))

    def test_a_station_that_is_not_down(self):
        for prepare in ((), ("crash", "start")):
            world = open_world()
            for name in prepare:
                world.call(0, name)
            before = look(world)
            for _ in range(2):
                self.assertEqual(caught(NotAllowed, world.call, 0, "start"), {"state": "up"})
                self.assertEqual(look(world), before)

    def test_the_other_side_does_not_matter(self):
        world = open_world()
        world.call(1, "crash")
        self.assertEqual(caught(NotAllowed, world.call, 0, "start"), {"state": "up"})
        self.assertEqual(standing(world.stations[1])[::2], (1, True))
        world.call(1, "start")
        self.assertEqual(standing(world.stations[1]), (2, 0, False))

    def test_the_last_era(self):
        world = World(Settings(), Settings())
        world.stations[0].era = 65534
        world.call(0, "crash")
        world.call(0, "start")
        self.assertEqual(standing(world.stations[0]), (65535, 0, False))
        self.assertEqual(caught(NotAllowed, world.call, 0, "start"), {"state": "up"})
        world.call(0, "crash")
        before = look(world)
        self.assertEqual(caught(TooMany, world.call, 0, "start"), {"most": 65535})
        self.assertEqual((look(world), standing(world.stations[0])), (before, (65535, 0, True)))

    def test_values_and_options(self):
        for is_down in (False, True):
            world = open_world()
            if is_down:
                world.call(0, "crash")
            before = look(world)
            for values in (*[(value,) for value in (*OTHERS, 0, 1, "", [], ())], (1, 2), (None, None, None)):
                self.assertEqual(caught(InvalidDeed, world.call, 0, "start", *values), {"deed": "start"})
            for option in OPTIONS:
                for value in (1, None):
                    self.assertEqual(caught(InvalidDeed, world.call, 0, "start", **{option: value}), {"deed": "start"})
                    self.assertEqual(caught(InvalidDeed, world.call, 0, "start", 5, **{option: value}),
                                     {"deed": "start"})
            self.assertEqual((look(world), world.stations[0].down), (before, is_down))
        self.assertEqual(caught(InvalidNumber, world.call, 2, "start", 5), {"number": 2})
        world.call(0, "start")
        self.assertEqual(standing(world.stations[0]), (2, 0, False))


class ReplayTest(unittest.TestCase):
    def mark(self, *events):
        """The mark that a connection has which is opened behind these events, in two words."""
        found = replay(Settings(), [*events, CONNECT])
        self.assertEqual((found[0], found[2]), (len(events) + 1, None))
        return found[1][4:6]

    def test_it_starts_a_station_that_is_down(self):
        self.assertEqual(self.mark(), (1, 1))
        self.assertEqual(self.mark(CRASH, START), (2, 1))
        self.assertEqual(self.mark(CRASH, ("tick",), START, ("tick",)), (2, 1))
        self.assertEqual(self.mark(CRASH, START, CRASH, START), (3, 1))
        self.assertEqual(self.mark(["call", "crash", [], []], ["call", "start", [], []]), (2, 1))

    def test_without_used_marks(self):
        _, due, _ = replay(Settings(), [CONNECT])
        opened = [CONNECT, ("out", due)]
        self.assertEqual(self.mark(*opened), (1, 2))
        self.assertEqual(self.mark(*opened, CRASH, START), (2, 1))

    def test_a_station_that_is_not_down(self):
        self.assertEqual(self.mark(START, START), (1, 1))
        self.assertEqual(self.mark(CRASH, START, START, START), (2, 1))
        self.assertIsNone(replay(Settings(), [START]))

    def test_a_station_that_is_not_started_stays_down(self):
        self.assertIsNone(replay(Settings(), [CRASH, CONNECT]))
        self.assertIsNone(replay(Settings(), [CRASH, START, CRASH, CONNECT]))

    def test_a_world(self):
        world = open_world()
        world.call(0, "crash")
        world.advance(3)
        world.call(0, "start")
        world.call(0, "connect", 80)
        world.advance(9)
        trace = world.trace(0)
        self.assertIsNone(replay(Settings(), trace))
        self.assertIsNone(replay(Settings(), world.trace(1)))
        place = trace.index(START)
        cut = trace[:place] + trace[place + 1:]
        self.assertEqual(replay(Settings(), cut), (place + 1, None, trace[place + 2][1]))

    def test_values_and_options(self):
        for event in (("call", "start", (1,), ()), ("call", "start", (None,), ()), ("call", "start", ((),), ()),
                      *[("call", "start", (), ((option, 1),)) for option in OPTIONS]):
            self.assertEqual(caught(InvalidTrace, replay, Settings(), [CRASH, event]), {"place": 1})


class DeskTest(unittest.TestCase):
    def setUp(self):
        self.desk = Desk(Settings(), Settings())
        for side in (0, 1):
            self.desk.do(deed(CONNECT, side))
            self.desk.do(deed(CONNECT, side))

    def standings(self):
        return [standing(station) for station in self.desk.world.stations]

    def test_it_starts_a_station_that_is_down(self):
        for side in (0, 1):
            self.desk.do(deed(CRASH, side))
            self.desk.do(("tick", 2))
            self.assertEqual(self.standings()[side], (1, 2, True))
            self.assertIsNone(self.desk.do(deed(START, side)))
            self.assertEqual(self.standings()[side], (2, 0, False))
            self.assertEqual(self.desk.deeds()[-1], deed(START, side))
            self.assertEqual(self.desk.do(deed(CONNECT, side)), 3)
            self.assertEqual(self.desk.world.stations[side].connection(3).mark, 2 * 65536 + 1)

    def test_undo_and_redo(self):
        self.desk.do(deed(CRASH))
        self.desk.do(deed(START))
        self.assertEqual(self.desk.undo(), deed(START))
        self.assertEqual(self.standings(), [(1, 2, True), (1, 2, False)])
        self.assertEqual(self.desk.redo(), deed(START))
        self.assertEqual(self.standings(), [(2, 0, False), (1, 2, False)])

    def test_a_station_that_is_not_down(self):
        before = self.desk.deeds()
        self.assertEqual(caught(NotAllowed, self.desk.do, deed(START)), {"state": "up"})
        self.assertEqual(caught(NotAllowed, self.desk.trial, [deed(CRASH), deed(START), deed(START)]), {"state": "up"})
        with self.assertRaises(Stopped) as raised:
            self.desk.do_all([deed(CRASH), deed(START), deed(START)])
        self.assertEqual(raised.exception.place, 2)
        self.assertEqual(vars(raised.exception.__cause__), {"state": "up"})
        self.assertEqual((self.desk.deeds(), self.standings()), (before, [(1, 2, False)] * 2))

    def test_values_and_options(self):
        for is_down in (False, True):
            if is_down:
                self.desk.do(deed(CRASH))
            before = self.desk.deeds()
            for values, options in (((1,), ()), ((None,), ()), (((),), ()), *[((), ((name, 1),)) for name in OPTIONS]):
                wrong = ("call", 0, "start", values, options)
                self.assertEqual(caught(InvalidDeed, self.desk.do, wrong), {"deed": "start"})
            self.assertEqual((self.desk.deeds(), self.desk.world.stations[0].down), (before, is_down))

    def test_many_deeds_and_other_desks(self):
        deeds = [deed(CRASH), deed(START), deed(CRASH), ("tick", 1), deed(START), deed(CONNECT)]
        self.assertEqual(self.desk.trial(deeds), [None] * 5 + [3])
        self.assertEqual(self.standings(), [(1, 2, False)] * 2)
        self.assertEqual(self.desk.do_all(deeds), [None] * 5 + [3])
        other = read_record(write_record(self.desk))
        for desk in (self.desk, self.desk.twin(), self.desk.what_if(0, piece=5), other):
            self.assertEqual(standing(desk.world.stations[0]), (3, 1, False))


class OtherPlayersTest(unittest.TestCase):
    def test_plays(self):
        script = [(0, 0, "start", (), ()), (1, 0, "connect", (80,), ()), (2, 0, "crash", (), ()),
                  (3, 0, "connect", (80,), ()), (4, 0, "start", (), ()), (4, 0, "start", (), ()),
                  (5, 0, "connect", (80,), ())]
        world = Plays(Settings(), Settings(), script, menu=[(1,)], depth=0, ticks=6).play(())
        names = [event[1] for event in world.trace(0) if event[0] == "call"]
        self.assertEqual(names, ["connect", "crash", "start", "connect"])
        self.assertEqual(standing(world.stations[0]), (2, 1, False))
        self.assertEqual([row[1] for row in world.ledger()], [65537, 2 * 65536 + 1])
        for row in ((0, 0, "start", (1,), ()), (0, 0, "start", (), (("backlog", 1),))):
            error = caught(InvalidDeed, Plays, Settings(), Settings(), [row], menu=[(1,)], depth=0, ticks=6)
            self.assertEqual(error, {"deed": row})

    def test_is_parting(self):
        first, second, menu = Settings(), Settings(inbox=9), (CRASH, START, CONNECT)
        for run, parts in (((2,), True), ((0, 2), False), ((0, 1, 2), True), ((1, 2), True), ((0, 1, 0, 2), False),
                           ((0, 1, 1, 2), True), ((0, 1), False)):
            self.assertIs(is_parting(first, second, menu, run), parts, run)
        self.assertIsNone(parting(first, first, menu, 5))

    def test_alike(self):
        settings = Settings()
        self.assertEqual(alike(settings, settings, [START], 9), ("alike",))
        self.assertEqual(alike(settings, settings, [CRASH], 9), ("alike",))
        # Each start makes a standing that was not met before, by its era.
        self.assertEqual(alike(settings, settings, [CRASH, START], 9), ("open",))

    def test_values_and_options_in_a_menu(self):
        right = Settings()
        for event in (("call", "start", (1,), ()), ("call", "start", (), (("source", 1),))):
            menu = [START, event]
            self.assertEqual(caught(InvalidTrace, parting, right, right, menu, 1), {"place": 1})
            self.assertEqual(caught(InvalidTrace, is_parting, right, right, menu, (0,)), {"place": 1})
            self.assertEqual(caught(InvalidTrace, alike, right, right, menu, 9), {"place": 1})

    def test_a_call_while_the_station_is_down(self):
        world = open_world()
        world.call(0, "crash")
        caught(StationDown, world.call, 0, "connect", 80)
        world.call(0, "start")
        self.assertEqual(world.call(0, "connect", 80), 2)


if __name__ == "__main__":
    unittest.main()
