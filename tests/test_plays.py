"""The plain player: choices and their order, plays and what is judged of them, wrong inputs."""

import copy
import itertools
import unittest
from random import Random

from lossway import plays as module
from lossway.errors import InvalidDeed, InvalidNumber, InvalidSetting, LossError, TooMany
from lossway.ledgers import unsound
from lossway.plays import Plays
from lossway.settings import Settings
from lossway.world import World
from tests.values import NOT_INTEGERS, NOT_SEQUENCES, NOT_STRINGS, caught
from tests.worlds import look

SCRIPT = (
    (0, 1, "listen", (80,), ()), (0, 0, "connect", (80,), (("first", 5),)), (0, 0, "write", (1, (1, 2, 3)), ()),
    (4, 1, "accept", (80,), ()), (5, 1, "read", (1, 9), ()), (5, 0, "close", (1,), ()), (6, 1, "close", (1,), ()),
    (9, 1, "read", (1, 9), ()),
)
MENU = ((1,), (), (2, 1))


def made(script=SCRIPT, settings=None, **choices):
    settings = Settings() if settings is None else settings
    return Plays(settings, settings, script, **{"menu": MENU, "depth": 3, "ticks": 10, **choices})


def plain_play(choices, script=SCRIPT, menu=MENU, ticks=10, settings=None):
    """A play as the document tells it."""
    settings = Settings() if settings is None else settings
    world = World(settings, settings, copies=8, girth=1400, common=[menu[index] for index in choices])
    for now in range(ticks + 1):
        for tick, side, name, values, options in script:
            if tick == now:
                try:
                    world.call(side, name, *values, **dict(options))
                except LossError:
                    pass
        if now < ticks:
            world.advance()
    return world


def count(world):
    return world.net.sent(0) + world.net.sent(1)


def complete(depth, **choices):
    """All complete choices by looking at all choices."""
    found = []
    many = len(choices.get("menu", MENU))
    for length in range(depth + 1):
        for one in itertools.product(range(many), repeat=length):
            sent = count(plain_play(one, **choices))
            if sent >= length and (sent == length or length == depth):
                found.append(one)
    return sorted(found)


class PlaysTest(unittest.TestCase):
    def test_all_complete_choices_in_their_order(self):
        for depth in range(5):
            for ticks in (0, 1, 2, 7):
                found = [choices for choices, _ in made(depth=depth, ticks=ticks).plays()]
                self.assertEqual(found, complete(depth, ticks=ticks), (depth, ticks))

    def test_each_world_is_played_to_its_end(self):
        for choices, world in made(depth=4).plays():
            self.assertEqual(look(world), look(plain_play(choices)))
            self.assertEqual(world.now, 10)
            # What is sent later has the plain fate, also if fewer lists were sent than might have been chosen.
            other = plain_play(choices)
            for one in (world, other):
                one.advance(60)
            self.assertEqual(look(world), look(other))

    def test_fewer_lists_than_the_depth(self):
        script = ((0, 0, "connect", (80,), ()),)
        found = [(choices, count(world)) for choices, world in made(script, depth=12, ticks=3).plays()]
        # The opening is refused, lost without an answer, or doubled and refused twice.
        refused = [((0, last), 2) for last in range(3)]
        doubled = [((2, *rest), 3) for rest in itertools.product(range(3), repeat=2)]
        self.assertEqual(found, [*refused, ((1,), 1), *doubled])

    def test_what_is_sent_behind_the_choices_has_the_plain_fate(self):
        script = ((0, 0, "connect", (80,), ()),)
        for choices, world in made(script, menu=((), (3,)), depth=6, ticks=2).plays():
            other = plain_play(choices, script=script, menu=((), (3,)), ticks=2)
            for one in (world, other):
                one.call(0, "connect", 81)
                one.advance(20)
            self.assertEqual(look(world), look(other))

    def test_no_lists_at_all(self):
        found = [(choices, world.now) for choices, world in made((), depth=5).plays()]
        self.assertEqual(found, [((), 10)])

    def test_depth_0(self):
        (choices, world), = made(depth=0).plays()
        self.assertEqual(choices, ())
        self.assertEqual(look(world), look(plain_play(())))

    def test_choices_are_tuples_and_worlds_are_fresh(self):
        player = made(depth=2)
        rows = list(player.plays())
        for row in rows:
            self.assertIsInstance(row, tuple)
            self.assertIsInstance(row[0], tuple)
            self.assertIsInstance(row[1], World)
        rows[0][1].advance(9)
        again = list(player.plays())
        self.assertEqual([row[0] for row in rows], [row[0] for row in again])
        self.assertEqual(again[0][1].now, 10)

    def test_a_menu_of_one_fate(self):
        for menu in (((1,),), ((),), (((1, 5, 5),),)):
            found = [choices for choices, _ in made(menu=menu, depth=6).plays()]
            self.assertEqual(found, complete(6, menu=menu))
            self.assertEqual(len(found), 1)

    def test_the_most(self):
        many = len(complete(3))
        self.assertEqual(len(list(made(most=many).plays())), many)
        found = []
        with self.assertRaises(TooMany) as raised:
            for choices, _ in made(most=many - 1).plays():
                found.append(choices)
        self.assertEqual((raised.exception.most, found), (many - 1, complete(3)[:-1]))
        for call in ("unsound", "costliest"):
            self.assertEqual(caught(TooMany, getattr(made(most=many - 1), call)), {"most": many - 1})
            getattr(made(most=many), call)()
        self.assertEqual(len(list(made(most=1, depth=0).plays())), 1)

    def test_the_most_is_4096_by_default(self):
        menu = [(1,)] * 17
        script = [(0, side, "connect", (80 + at,), ()) for at in range(2) for side in (0, 1)]
        found = []
        with self.assertRaises(TooMany) as raised:
            for choices, _ in made(script, menu=menu, depth=3, ticks=0).plays():
                found.append(choices)
        self.assertEqual((raised.exception.most, len(found)), (4096, 4096))


class PlayTest(unittest.TestCase):
    def test_any_choices(self):
        player = made(depth=2)
        for choices in ((), (0,), (1, 2), (2, 2, 2, 2, 1, 0, 1), [1, 1, 1, 1, 1], (0,) * 40):
            self.assertEqual(look(player.play(choices)), look(plain_play(choices)))

    def test_choices_that_were_not_used_wait(self):
        world = made((), depth=1).play((1, 1))
        world.call(0, "connect", 80)
        self.assertEqual(world.net.flying, 0)

    def test_wrong_choices(self):
        player = made()
        for choices in (*NOT_SEQUENCES, (3,), (0, -1), "01", {0: 1}):
            self.assertEqual(caught(InvalidNumber, player.play, choices), {"number": choices})
        for index in NOT_INTEGERS:
            self.assertEqual(caught(InvalidNumber, player.play, [0, index]), {"number": [0, index]})

    def test_the_calls_of_a_tick_come_before_it(self):
        script = ((0, 0, "connect", (80,), ()), (2, 0, "abort", (1,), ()), (3, 0, "connect", (81,), ()),
                  (4, 0, "connect", (82,), ()))
        world = made(script, ticks=3, menu=((),)).play((0,) * 9)
        kinds = [event[0] if event[0] != "call" else event[1] for event in world.trace(0)]
        self.assertEqual(kinds, ["connect", "out", "tick", "tick", "abort", "tick", "connect", "out"])
        self.assertEqual(made(script, ticks=0).play(()).trace(0)[0][1], "connect")

    def test_several_calls_of_one_tick_in_their_order(self):
        script = ((1, 1, "listen", (80,), ()), (1, 1, "unlisten", (80,), ()), (1, 1, "listen", (81,), ()))
        world = made(script, ticks=1).play(())
        self.assertEqual([event[1:3] for event in world.trace(1) if event[0] == "call"],
                         [("listen", (80,)), ("unlisten", (80,)), ("listen", (81,))])

    def test_calls_that_raise_an_error_are_passed_over(self):
        script = ((0, 0, "read", (1, 1), ()), (0, 0, "listen", (0,), ()), (0, 0, "listen", (80,), ()),
                  (0, 0, "listen", (80,), ()), (0, 0, "start", (), ()), (1, 0, "listen", ("x",), ()))
        world = made(script, ticks=2).play(())
        self.assertEqual([event for event in world.trace(0) if event[0] == "call"], [("call", "listen", (80,), ())])

    def test_the_net(self):
        world = made(menu=[[1] * 8], depth=1).play([0])
        self.assertEqual((world.net.copies, world.net.girth, world.net.life), (8, 1400, 8))

    def test_later_changes_have_no_effect(self):
        script = [[0, 1, "listen", [80], []], [0, 0, "connect", [80], [["first", 5]]], [0, 0, "write", [1, [1, 2]], []]]
        menu = [[1], [], [2, [1, 3, 4]]]
        kept = copy.deepcopy((script, menu))
        player = made(script, menu=menu)
        found = [(choices, look(world)) for choices, world in player.plays()]
        self.assertEqual((script, menu), kept)
        script[2][3][1].append(9)
        script.append([0, 0, "crash", [], []])
        menu[1].append(1)
        menu.append([3])
        self.assertEqual([(choices, look(world)) for choices, world in player.plays()], found)


class JudgedTest(unittest.TestCase):
    def test_sound_plays(self):
        self.assertIsNone(made(depth=4).unsound())

    def test_the_first_unsound_play(self):
        # With a station that reads other bytes the ledgers of some plays would be wrong, so the judge is exchanged.
        original = module.is_sound
        wrong = complete(3)[4:]
        try:
            ledgers = [plain_play(choices).ledger() for choices in wrong]
            seen = [plain_play(choices).ledger() for choices in complete(3)[:4]]
            module.is_sound = lambda ledger: ledger in seen or ledger not in ledgers
            found = made(depth=3).unsound()
        finally:
            module.is_sound = original
        expected = next((one for one in wrong if plain_play(one).ledger() not in seen), None)
        self.assertEqual(found, expected)
        self.assertIsNotNone(found)

    def test_the_costliest_play(self):
        for depth in (0, 1, 3, 4):
            for script in (SCRIPT, (), SCRIPT[:3], SCRIPT[1:2]):
                costs = [(count(plain_play(one, script=script)), one) for one in complete(depth, script=script)]
                most = max([cost for cost, _ in costs])
                first = min([one for cost, one in costs if cost == most])
                self.assertEqual(made(script, depth=depth).costliest(), first)

    def test_small_nets_keep_the_promises(self):
        # A whole connection with one byte in each direction, over all nets that lose or double the first lists.
        script = (*SCRIPT[:3], (3, 1, "accept", (80,), ()), (4, 1, "write", (1, (9,)), ()), (5, 0, "close", (1,), ()),
                  (40, 1, "accept", (80,), ()), (40, 1, "read", (1, 9), ()), (40, 1, "close", (1,), ()),
                  (60, 0, "read", (1, 9), ()))
        player = made(script, menu=((1,), (), (1, 3)), depth=5, ticks=70, settings=Settings(low=19))
        self.assertIsNone(player.unsound())
        read = 0
        for choices, world in player.plays():
            self.assertIsNone(unsound(world.ledger()))
            read += sum([len(row[4]) for row in world.ledger()])
        self.assertGreater(read, 300)


class WrongTest(unittest.TestCase):
    def error(self, kind, *changes, **choices):
        values = [Settings(), Settings(), SCRIPT]
        for place, value in changes:
            values[place] = value
        return caught(kind, Plays, *values, **{"menu": MENU, "depth": 2, "ticks": 5, **choices})

    def test_the_settings(self):
        self.assertEqual(self.error(InvalidSetting, (1, Settings(size=512)), (2, 5), menu=5), {"setting": "size"})
        self.assertEqual(self.error(InvalidSetting, (0, Settings(life=3)), (2, 5), menu=5), {"setting": "life"})
        self.assertEqual(self.error(InvalidSetting, (0, None), (2, 5)), {"setting": "settings"})

    def test_what_is_no_script(self):
        for script in NOT_SEQUENCES:
            self.assertEqual(self.error(InvalidDeed, (2, script), menu=5, depth=-1), {"deed": script})

    def wrong_rows(self):
        yield from NOT_SEQUENCES
        yield from ((), (1, 0, "crash", ()), (1, 0, "crash", (), (), ()), (1, 0, "nothing", (), ()))
        for tick in (-1, *NOT_INTEGERS):
            yield (tick, 0, "crash", (), ())
        for side in (-1, 2, *NOT_INTEGERS):
            yield (1, side, "crash", (), ())
        for name in (*NOT_STRINGS, "", "status", "tick"):
            yield (1, 0, name, (), ())
        for value in (*NOT_SEQUENCES, (1,)):
            yield (1, 0, "crash", value, ())
        for value in NOT_SEQUENCES:
            yield (1, 0, "crash", (), value)
            yield (1, 0, "listen", (80,), (value,))
        for options in ((("backlog",),), (("backlog", 1), ("backlog", 2)), (("first", 1),), ((1, 1),), (("self", 1),)):
            yield (1, 0, "listen", (80,), options)
        yield (1, 0, "listen", (), ())
        yield (1, 0, "write", (1,), ())

    def test_wrong_rows(self):
        right = (1, 0, "crash", (), ())
        for row in self.wrong_rows():
            for script in ([row], [right, row, 5], (right, right, row, right)):
                self.assertIs(self.error(InvalidDeed, (2, script), menu=())["deed"], row)

    def test_ticks_that_descend(self):
        rows = [(2, 0, "crash", (), ()), (2, 0, "start", (), ()), (1, 0, "crash", (), ()), (0, 0, "crash", (), ())]
        self.assertIs(self.error(InvalidDeed, (2, rows))["deed"], rows[2])
        self.assertEqual(len(list(made(rows[:2], depth=0).plays())), 1)

    def test_the_menu(self):
        for menu in (*NOT_SEQUENCES, (), [], (5,), ((1,), 5), ((9,),), ((0,),), ((1, 2), (1,) * 9), (((1, 2),),),
                     (((1, 2, 0),),), (("1",),), ((True,),)):
            self.assertEqual(self.error(InvalidSetting, menu=menu, depth=-1), {"setting": "menu"})
        self.assertEqual(len(made(menu=[(1,) * 8, [[8, 65535, 65535]]], depth=1).costliest()), 1)
        short = Settings(life=2)
        self.assertEqual(self.error(InvalidSetting, (0, short), (1, short), menu=((3,),)), {"setting": "menu"})

    def test_the_numbers(self):
        for depth in (-1, 13, *NOT_INTEGERS):
            self.assertEqual(self.error(InvalidNumber, depth=depth, ticks=-1), {"number": depth})
        for ticks in (-1, 1001, *NOT_INTEGERS):
            self.assertEqual(self.error(InvalidNumber, ticks=ticks, most=-5), {"number": ticks})
        for most in (0, 100001, *NOT_INTEGERS):
            self.assertEqual(self.error(InvalidNumber, most=most), {"number": most})
        self.assertEqual(made((), depth=12, ticks=1000, most=100000).costliest(), ())


class DrawnTest(unittest.TestCase):
    def test_drawn_scripts(self):
        for seed in range(12):
            random = Random(seed)
            script = [(0, 1, "listen", (80,), (("backlog", random.randint(0, 2)),)), (0, 0, "connect", (80,), ())]
            tick = 0
            for _ in range(8):
                tick += random.randint(0, 2)
                name, values = random.choice((
                    ("write", (1, (7, 8))), ("read", (1, 5)), ("close", (1,)), ("accept", (80,)), ("abort", (1,)),
                    ("crash", ()), ("start", ()),
                ))
                script.append((tick, random.randint(0, 1), name, values, ()))
            menu = random.sample([(1,), (), (2,), (1, 3), ((1, 4, 4),)], random.randint(1, 3))
            depth, ticks = random.randint(0, 4), random.randint(0, 12)
            player = made(script, menu=menu, depth=depth, ticks=ticks)
            found = [choices for choices, _ in player.plays()]
            self.assertEqual(found, complete(depth, script=script, menu=menu, ticks=ticks), seed)
            self.assertIsNone(player.unsound())


if __name__ == "__main__":
    unittest.main()
