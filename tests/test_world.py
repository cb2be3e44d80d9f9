"""Worlds: how they are made, calls, ticks, quiet, and the traces."""

import unittest
from random import Random

from lossway import calls
from lossway.errors import (
    InvalidDeed, InvalidFate, InvalidNumber, InvalidSetting, NoConnection, NotAllowed, PortTaken, StationDown,
)
from lossway.net import Net
from lossway.segments import Segment
from lossway.settings import Settings
from lossway.station import Station
from lossway.world import World
from lossway.words import pack, unpack
from tests.values import NOT_INTEGERS, OTHERS, Same, caught
from tests.worlds import drawn_plans, drawn_settings, lists_of, look, open_world

SIDES = (-1, 2, *NOT_INTEGERS)
NAMES = (
    "listen", "unlisten", "connect", "accept", "write", "urge", "read", "close", "abort", "resize", "forget", "crash",
    "start",
)
# Values that each call takes at a world with one open connection.
RIGHT = {
    "listen": (81,), "unlisten": (80,), "connect": (80,), "accept": (80,), "write": (1, [7]), "urge": (1, (7,)),
    "read": (1, 5), "close": (1,), "abort": (1,), "resize": (1, 9), "forget": (1,), "crash": (), "start": (),
}


class MadeTest(unittest.TestCase):
    def test_attributes(self):
        first, second = Settings(), Settings(piece=5)
        world = World(first, second)
        self.assertIsInstance(world.stations, tuple)
        self.assertEqual([station.settings for station in world.stations], [first, second])
        self.assertEqual([station.era for station in world.stations], [1, 1])
        self.assertEqual((world.now, world.net.life, world.net.copies, world.net.girth), (0, 8, 2, 1400))
        self.assertEqual((world.trace(0), world.trace(1), world.ledger(), world.quiet), ([], [], [], True))

    def test_the_net_has_the_choices(self):
        world = World(Settings(life=3), Settings(life=3), copies=1, girth=5, plans=([(3,)], []), common=[(2,)])
        self.assertEqual((world.net.life, world.net.copies, world.net.girth), (3, 1, 5))
        for now in (0, 0, 0):
            world.net.send(0, [0] * 19, now)
        self.assertEqual([len(world.net.arrivals(now)) for now in (1, 2, 3)], [1, 1, 1])

    def test_unequal_sizes_come_first(self):
        first = Settings(size=512)
        self.assertEqual(caught(InvalidSetting, World, first, Settings(life=9), copies=0), {"setting": "size"})
        self.assertEqual(caught(InvalidSetting, World, Settings(), Settings(life=9), copies=0), {"setting": "life"})
        error = caught(InvalidSetting, World, Settings(), Settings(), copies=0, girth=0)
        self.assertEqual(error, {"setting": "copies"})

    def test_errors_of_the_net(self):
        right = Settings(), Settings()
        for name, values in {"copies": (0, 9), "girth": (0, 1401), "plans": (5, [()]), "common": (5, "")}.items():
            for value in (*values, None):
                self.assertEqual(caught(InvalidSetting, World, *right, **{name: value}), {"setting": name})
        self.assertEqual(caught(InvalidFate, World, *right, plans=([(1,)], [(1,), (9,)])), {"side": 1, "place": 1})
        self.assertEqual(caught(InvalidFate, World, *right, common=[(0,)]), {"side": 2, "place": 0})

    def test_what_is_no_settings(self):
        for value in (None, 5, {}, Settings().row()):
            self.assertEqual(caught(InvalidSetting, World, value, Settings()), {"setting": "settings"})
            self.assertEqual(caught(InvalidSetting, World, Settings(), value), {"setting": "settings"})

    def test_later_changes_of_the_plans_have_no_effect(self):
        plan, common = [(), [1]], [[2]]
        world = World(Settings(), Settings(), plans=[plan, plan], common=common)
        common[0].append(3)
        plan[1].append(4)
        plan.append(())
        for _ in range(3):
            world.net.send(0, [0] * 19, 0)
        self.assertEqual(world.net.flying, 2)


class CallTest(unittest.TestCase):
    def test_the_names(self):
        self.assertEqual(calls.CALLS, NAMES)

    def test_example(self):
        world = World(Settings(), Settings())
        self.assertIsNone(world.call(1, "listen", 80))
        handle = world.call(0, "connect", 80)
        self.assertIsNone(world.advance(3))
        server = world.call(1, "accept", 80)
        count = world.call(0, "write", handle, [104, 105])
        world.advance()
        self.assertEqual([handle, server, count, world.call(1, "read", server, 10)], [1, 1, 2, (104, 105)])

    def test_each_name_calls_the_method(self):
        for name in NAMES:
            world, other = open_world(), open_world()
            side = 1 if name in ("unlisten", "accept") else 0
            if name == "forget":
                for one in (world, other):
                    one.call(0, "abort", 1)
            if name == "start":
                for one in (world, other):
                    one.call(0, "crash")
            before = len(world.trace(side))
            station = other.stations[side]
            due = getattr(station, name)(*RIGHT[name])
            self.assertEqual(world.call(side, name, *RIGHT[name]), due, name)
            event, *outs = world.trace(side)[before:]
            self.assertEqual(event[:2], ("call", name))
            self.assertEqual([words for _, words in outs], [tuple(words) for words in station.drain()], name)
            self.assertEqual(world.stations[side].down, name == "crash")
            self.assertEqual(look(world)[7][side], look(other)[7][side])

    def test_the_side_comes_first(self):
        world = open_world()
        for side in SIDES:
            self.assertEqual(caught(InvalidNumber, world.call, side, "nothing"), {"number": side})
            self.assertEqual(caught(InvalidNumber, world.call, side, "listen", 80), {"number": side})

    def test_unknown_names(self):
        world = open_world()
        others = ("", "Listen", "listen ", "advance", "drain", "handles", "status", "connection", "deliver", "__init__")
        for name in (*others, *OTHERS, 5, ["listen"], ("listen",), Same()):
            for values in ((), (80,), (80, 81)):
                self.assertIs(caught(InvalidDeed, world.call, 0, name, *values)["deed"], name)

    def test_another_number_of_values(self):
        world = open_world()
        for name in NAMES:
            for count in range(5):
                if count != len(RIGHT[name]):
                    self.assertEqual(caught(InvalidDeed, world.call, 0, name, *[80] * count), {"deed": name})

    def test_another_option(self):
        world = open_world()
        allowed = {"listen": ("backlog",), "connect": ("source", "first")}
        for name in NAMES:
            for option in ("backlog", "source", "first", "port", "handle", "target", "era"):
                if option not in allowed.get(name, ()):
                    error = caught(InvalidDeed, world.call, 0, name, *RIGHT[name], **{option: 1})
                    self.assertEqual(error, {"deed": name})

    def test_python_refuses_names_of_parameters(self):
        world = open_world()
        for option in ("self", "side", "name"):
            with self.assertRaises(TypeError):
                world.call(0, "listen", 81, **{option: 1})

    def test_the_form_comes_before_all_errors_of_the_station(self):
        world = open_world()
        world.call(0, "crash")
        self.assertEqual(caught(InvalidDeed, world.call, 0, "write", 1), {"deed": "write"})
        self.assertEqual(caught(InvalidDeed, world.call, 0, "crash", backlog=1), {"deed": "crash"})
        self.assertEqual(caught(StationDown, world.call, 0, "crash"), {})
        self.assertEqual(caught(StationDown, world.call, 0, "write", 9, 9), {})

    def test_options_reach_the_station(self):
        world = World(Settings(), Settings())
        world.call(1, "listen", 80, backlog=0)
        handle = world.call(0, "connect", 80, source=7, first=9)
        connection = world.stations[0].connection(handle)
        self.assertEqual((connection.source, connection.first), (7, 9))
        world.advance()
        self.assertEqual(len(unpack(lists_of(world.trace(1), "out")[0]).cookie), 6)
        self.assertEqual(caught(PortTaken, world.call, 0, "connect", 80, source=7), {"port": 7})

    def test_an_error_changes_nothing(self):
        world = open_world()
        world.call(0, "write", 1, [1, 2])
        before = look(world)
        refused = (
            (NoConnection, "write", 2, [1]), (InvalidNumber, "write", 1, [256]), (InvalidNumber, "read", 1, -1),
            (NotAllowed, "forget", 1), (NotAllowed, "start"), (InvalidSetting, "resize", 1, 0),
            (InvalidNumber, "listen", 0), (InvalidDeed, "status", 1), (InvalidDeed, "write", 1),
        )
        for error, name, *values in refused:
            caught(error, world.call, 0, name, *values)
            self.assertEqual(look(world), before)

    def test_what_is_sent_by_a_direct_call_waits_for_the_next_call(self):
        world = open_world()
        world.stations[0].write(1, [5])
        before = len(world.trace(0))
        caught(NoConnection, world.call, 0, "close", 9)
        self.assertEqual((len(world.trace(0)), world.net.flying), (before, 0))
        world.call(0, "listen", 81)
        self.assertEqual([event[0] for event in world.trace(0)[before:]], ["call", "out"])
        self.assertEqual(world.net.flying, 1)

    def test_lists_are_sent_at_the_time_of_the_world(self):
        world = open_world(plans=[[(1,)] * 2 + [(4,)], []])
        world.call(0, "write", 1, [5])
        arrived = world.now + 4
        while lists_of(world.trace(1), "in")[-1] != lists_of(world.trace(0), "out")[2]:
            world.advance()
        self.assertEqual(world.now, arrived)


class TraceTest(unittest.TestCase):
    def test_values_and_options_as_they_are_kept(self):
        world = World(Settings(), Settings())
        data = [1, 2]
        world.call(1, "listen", 80)
        world.call(1, "listen", 81, backlog=3)
        world.call(0, "connect", 80, source=None, first=5)
        world.call(0, "connect", 80, first=5, source=None)
        world.call(0, "connect", 80, source=70)
        world.call(0, "write", 1, data)
        world.call(0, "read", 1, 0)
        world.call(0, "crash")
        world.call(0, "start")
        data.append(3)
        found = [event for event in world.trace(0) if event[0] == "call"]
        both = (("first", 5), ("source", None))
        self.assertEqual(found, [
            ("call", "connect", (80,), both), ("call", "connect", (80,), both),
            ("call", "connect", (80,), (("source", 70),)), ("call", "write", (1, (1, 2)), ()),
            ("call", "read", (1, 0), ()), ("call", "crash", (), ()), ("call", "start", (), ()),
        ])
        listened = [("call", "listen", (80,), ()), ("call", "listen", (81,), (("backlog", 3),))]
        self.assertEqual(world.trace(1), listened)

    def test_all_is_tuples(self):
        world = open_world()
        world.call(0, "write", 1, [1, 2])
        world.advance(2)
        for event in world.trace(0) + world.trace(1):
            self.check_tuples(event)

    def check_tuples(self, value):
        self.assertNotIsInstance(value, list)
        for item in value if isinstance(value, tuple) else ():
            self.check_tuples(item)

    def test_events_stand_before_the_lists_that_they_send(self):
        world = World(Settings(), Settings())
        world.call(1, "listen", 80)
        world.call(0, "connect", 80)
        self.assertEqual([event[0] for event in world.trace(0)], ["call", "out"])
        world.advance()
        self.assertEqual([event[0] for event in world.trace(1)], ["call", "tick", "in", "out"])
        self.assertEqual(world.trace(1)[2][1], world.trace(0)[1][1])
        world.advance()
        self.assertEqual([event[0] for event in world.trace(0)], ["call", "out", "tick", "tick", "in", "out"])
        world.call(0, "write", 1, [5])
        world.call(0, "write", 1, [6])
        kinds = [event[0] for event in world.trace(0)[6:]]
        self.assertEqual(kinds, ["call", "out", "call"])

    def test_a_tick_that_sends(self):
        world = World(Settings(), Settings())
        world.call(0, "connect", 80)
        world.advance(8)
        due = ["call", "out"] + ["tick"] * 2 + ["in"] + ["tick"] * 6
        self.assertEqual([event[0] for event in world.trace(0)], due)
        lonely = World(Settings(), Settings(), plans=[[()] * 3, []])
        lonely.call(0, "connect", 80)
        lonely.advance(8)
        self.assertEqual([event[0] for event in lonely.trace(0)], ["call", "out"] + ["tick"] * 8 + ["out"])

    def test_ticks_and_arrivals_while_a_station_is_down(self):
        world = World(Settings(), Settings())
        world.call(1, "crash")
        world.call(0, "connect", 80)
        world.advance(2)
        self.assertEqual([event[0] for event in world.trace(1)], ["call", "tick", "in", "tick"])
        self.assertEqual(world.trace(1)[2][1], world.trace(0)[1][1])

    def test_a_trace_is_fresh(self):
        world = open_world()
        found = world.trace(0)
        found.append(5)
        found[0] = 6
        self.assertNotEqual(world.trace(0), found)
        self.assertEqual(world.trace(0)[0], ("call", "connect", (80,), ()))

    def test_wrong_sides(self):
        world = open_world()
        for side in SIDES:
            self.assertEqual(caught(InvalidNumber, world.trace, side), {"number": side})


class PlainWorld:
    """A tick as the document tells it, beside which a world is played."""

    def __init__(self, settings, plans):
        self.stations = [Station(one) for one in settings]
        self.net = Net(life=settings[0].life, plans=plans)
        self.traces = ([], [])
        self.now = 0

    def carry(self, side):
        for words in self.stations[side].drain():
            self.traces[side].append(("out", tuple(words)))
            self.net.send(side, words, self.now)

    def call(self, side, name, *values):
        getattr(self.stations[side], name)(*values)
        self.traces[side].append(("call", name, tuple([tuple(v) if isinstance(v, list) else v for v in values]), ()))
        self.carry(side)

    def tick(self):
        self.now += 1
        self.stations[0].advance()
        self.traces[0].append(("tick",))
        self.carry(0)
        self.stations[1].advance()
        self.traces[1].append(("tick",))
        self.carry(1)
        for side, words in self.net.arrivals(self.now):
            self.stations[side].deliver(words)
            self.traces[side].append(("in", tuple(words)))
            self.carry(side)


class AdvanceTest(unittest.TestCase):
    def test_the_order_of_a_tick(self):
        for seed in range(25):
            random = Random(seed)
            life = random.randint(1, 5)
            settings = [drawn_settings(random, 128, life) for _ in range(2)]
            plans = drawn_plans(random, life)
            world, plain = World(*settings, plans=plans), PlainWorld(settings, plans)
            for one in (world, plain):
                one.call(1, "listen", 80)
                one.call(0, "listen", 80)
                one.call(0, "connect", 80)
                one.call(1, "connect", 80)
            for _ in range(120):
                if random.random() < 0.3:
                    side, data = random.randint(0, 1), [random.randint(0, 255) for _ in range(9)]
                    if world.stations[side].status(1)["state"] != "gone":
                        for one in (world, plain):
                            one.call(side, "write", 1, data)
                world.advance()
                plain.tick()
                self.assertEqual((world.trace(0), world.trace(1)), plain.traces, seed)

    def test_both_sides_send_before_anything_arrives(self):
        # Openings that cross: each side has sent its own again before it sees the other one.
        world = World(Settings(), Settings(), plans=[[()], [()]])
        world.call(0, "connect", 5, source=4)
        world.call(1, "connect", 4, source=5)
        world.advance(9)
        for side in (0, 1):
            kinds = [event[0] for event in world.trace(side)]
            self.assertEqual(kinds, ["call", "out"] + ["tick"] * 8 + ["out", "tick", "in", "out"])

    def test_what_side_0_sends_at_a_tick_may_not_arrive_in_it(self):
        world = World(Settings(), Settings(), plans=[[(), (1,)], []])
        world.call(0, "connect", 80)
        world.advance(8)
        self.assertEqual((world.net.flying, lists_of(world.trace(1), "in")), (1, []))
        world.advance()
        self.assertEqual(len(lists_of(world.trace(1), "in")), 1)

    def test_counts(self):
        world = open_world()
        before = look(world)
        self.assertIsNone(world.advance(0))
        self.assertEqual(look(world), before)
        now = world.now
        world.advance()
        world.advance(5)
        self.assertEqual((world.now, [station.now for station in world.stations]), (now + 6, [now + 6] * 2))

    def test_wrong_counts(self):
        world = open_world()
        before = look(world)
        for count in (-1, *NOT_INTEGERS):
            self.assertEqual(caught(InvalidNumber, world.advance, count), {"number": count})
            self.assertEqual(caught(InvalidNumber, world.run, count), {"number": count})
        self.assertEqual(look(world), before)

    def test_many_ticks_at_once_and_one_by_one(self):
        worlds = [open_world(plans=[[(2,), (), (3,)], [(4,)]]) for _ in range(2)]
        for world in worlds:
            world.call(0, "write", 1, list(range(50)))
        worlds[0].advance(40)
        for _ in range(40):
            worlds[1].advance()
        self.assertEqual(look(worlds[0]), look(worlds[1]))


class QuietTest(unittest.TestCase):
    def test_a_copy_that_flies(self):
        world = World(Settings(), Settings(), common=[(3,)])
        self.assertIs(world.quiet, True)
        self.assertEqual(world.stations[1].deliver(pack(Segment(5, 80))), "refused")
        world.call(1, "listen", 80)
        self.assertEqual((world.net.flying, world.quiet), (1, False))
        world.advance(2)
        self.assertIs(world.quiet, False)
        world.advance()
        self.assertIs(world.quiet, True)

    def test_each_alarm(self):
        for name in ("resend", "probe", "delay", "pace", "alive", "rest"):
            for side in (0, 1):
                world = open_world()
                world.run(100)
                self.assertIs(world.quiet, True)
                world.stations[side].connection(1).alarms.arm(name, 10 ** 6)
                self.assertIs(world.quiet, name == "alive", name)
                world.stations[side].connection(1).alarms.arm("alive", 10 ** 6)
                self.assertIs(world.quiet, name == "alive", name)

    def test_connections_that_no_user_has(self):
        world = World(Settings(), Settings(), plans=[[], [()] * 9])
        world.call(1, "listen", 80)
        world.call(0, "connect", 80)
        world.advance()
        world.call(0, "abort", 1)
        self.assertEqual((world.net.flying, world.stations[1].handles()), (0, []))
        self.assertIs(world.quiet, False)

    def test_a_station_that_is_down_waits_for_nothing(self):
        world = World(Settings(), Settings(), plans=[[()], []])
        world.call(0, "connect", 80)
        self.assertIs(world.quiet, False)
        world.call(0, "crash")
        self.assertIs(world.quiet, True)

    def test_run_until_quiet(self):
        world = World(Settings(), Settings())
        self.assertEqual((world.run(50), world.now), (0, 0))
        world.call(1, "listen", 80)
        world.call(0, "connect", 80)
        self.assertEqual((world.run(50), world.now, world.quiet), (3, 3, True))
        self.assertEqual(world.run(50), 0)

    def test_run_is_advance(self):
        worlds = [open_world() for _ in range(2)]
        for world in worlds:
            world.call(0, "write", 1, list(range(60)))
        ticks = worlds[0].run(1000)
        for tick in range(ticks):
            self.assertIs(worlds[1].quiet, False)
            worlds[1].advance()
        self.assertIs(worlds[1].quiet, True)
        self.assertEqual(look(worlds[0]), look(worlds[1]))

    def test_a_limit_that_ends_the_run(self):
        world = World(Settings(), Settings())
        world.call(1, "listen", 80)
        world.call(0, "connect", 80)
        self.assertEqual((world.run(0), world.now), (0, 0))
        self.assertEqual((world.run(2), world.now, world.quiet), (2, 2, False))
        self.assertEqual((world.run(1), world.now, world.quiet), (1, 3, True))

    def test_a_world_that_never_rests(self):
        world = open_world(Settings(inbox=8))
        world.call(0, "write", 1, list(range(60)))
        self.assertEqual((world.run(700), world.quiet), (700, False))
        idle = open_world(Settings(alive=5))
        self.assertLess(idle.run(700), 10)


class DirectTest(unittest.TestCase):
    def test_calls_at_a_station_are_in_no_trace_and_no_ledger(self):
        world = World(Settings(), Settings())
        world.stations[1].listen(80)
        handle = world.stations[0].connect(80)
        world.advance(4)
        server = world.stations[1].accept(80)
        self.assertEqual(world.call(0, "write", handle, [1, 2]), 2)
        world.advance(2)
        self.assertEqual(world.call(1, "read", server, 9), (1, 2))
        self.assertEqual(world.ledger(), [])
        named = [event[1] for side in (0, 1) for event in world.trace(side) if event[0] == "call"]
        self.assertEqual(named, ["write", "read"])
        self.assertEqual([event[0] for event in world.trace(0)][:2], ["tick", "out"])


if __name__ == "__main__":
    unittest.main()
