"""Records: each line, each value, the way back, each wrong text; and the board."""

import unittest
from random import Random

from lossway.desk import Desk
from lossway.errors import (
    InvalidDeed, InvalidFate, InvalidLine, InvalidNumber, InvalidSetting, LossError, NoConnection, NothingLeft,
    PortTaken,
)
from lossway.records import board, read_record, write_record
from lossway.settings import Settings
from lossway.world import World
from tests.test_desk import drawn_deed, state
from tests.values import NOT_STRINGS, caught
from tests.worlds import look, open_world

HEAD = "lossway 1\nfirst\nsecond\nnet copies=2 girth=1400\n"
OTHERS = {
    "size": 2048, "inbox": 63, "outbox": 65535, "piece": 1400, "least": 1, "control": "curve", "low": 3, "high": 100000,
    "tries": 60, "life": 1, "delay": 0, "join": False, "tell": False, "seek": True, "alive": 7, "rest": 1,
    "fresh": 100000,
}


def record(*lines):
    return HEAD + "".join([line + "\n" for line in lines])


def desk_with(*deeds):
    made = Desk(Settings(), Settings())
    for deed in deeds:
        made.do(deed)
    return made


class WriteTest(unittest.TestCase):
    def test_a_desk_without_deeds(self):
        self.assertEqual(write_record(Desk(Settings(), Settings())), HEAD)

    def test_settings(self):
        for name, value in OTHERS.items():
            first = Settings(**{name: value})
            second = first if name in ("size", "life") else Settings()
            lines = write_record(Desk(first, second)).split("\n")
            self.assertEqual(lines[1], f"first {name}={value}")
            self.assertEqual(lines[2], "second" if second != first else f"second {name}={value}")

    def test_all_choices_in_the_order_of_the_table(self):
        lines = write_record(Desk(Settings(**OTHERS), Settings(**dict(reversed(OTHERS.items()))))).split("\n")
        words = " ".join([f"{name}={value}" for name, value in OTHERS.items()])
        self.assertEqual(lines[1:3], ["first " + words, "second " + words])
        self.assertIn(" control=curve ", lines[1])
        self.assertIn(" join=False tell=False seek=True ", lines[1])

    def test_the_net(self):
        text = write_record(Desk(Settings(), Settings(), copies=8, girth=1))
        self.assertEqual(text.split("\n")[3], "net copies=8 girth=1")

    def test_deeds(self):
        rows = [
            (("tick", 0), "tick 0"), (["tick", 1000], "tick 1000"), (("fate", 0, ()), "fate 0 -"),
            (("fate", 1, (3,)), "fate 1 3"), (("fate", 0, [1, [2, 65535, 1]]), "fate 0 1,2:65535:1"),
            (("fate", 1, ((8, 0, 65535), 8)), "fate 1 8:0:65535,8"),
            (("call", 1, "listen", (80,), ()), "call 1 listen 80"),
            (("call", 1, "listen", (81,), (("backlog", 0),)), "call 1 listen 81 backlog=0"),
            (("call", 0, "connect", (80,), (("source", 7), ("first", None))), "call 0 connect 80 first=none source=7"),
            (("call", 0, "connect", (80,), (("first", 1023),)), "call 0 connect 80 first=1023"),
            (("call", 0, "write", (1, ()), ()), "call 0 write 1 []"),
            (("call", 0, "write", (1, [0]), ()), "call 0 write 1 [0]"),
            (("call", 0, "urge", (1, (1, 255, 30)), ()), "call 0 urge 1 [1.255.30]"),
            (("call", 0, "read", (1, 0), ()), "call 0 read 1 0"), (("call", 0, "close", (2,), ()), "call 0 close 2"),
            (("call", 0, "crash", (), ()), "call 0 crash"), (("call", 0, "start", (), ()), "call 0 start"),
        ]
        desk = desk_with(*[deed for deed, _ in rows])
        self.assertEqual(write_record(desk), record(*[line for _, line in rows]))

    def test_the_desk_is_not_changed(self):
        desk = desk_with(("tick", 1), ("tick", 2))
        desk.undo()
        before = state(desk)
        self.assertEqual(write_record(desk), record("tick 1"))
        self.assertEqual(state(desk), before)

    def test_values_that_have_no_form(self):
        class Odd(Desk):
            def deeds(self):
                return [("tick", 1), *self.odd]

        for deed in (
            ("call", 0, "write", (1, "ab"), ()), ("call", 0, "write", (1, (256,)), ()), ("tick", True), ("tick", None),
            ("call", 0, "accept", (True,), ()), ("call", 0, "write", (1, ((1,),)), ()), ("call", 0, "write", (1.5,
            ()), ()),
            ("call", 0, "listen", (1,), (("backlog", False),)), ("call", 0, "listen", (1,), (("backlog", {}),)),
            ("fate", 0, ("x",)), ("fate", None, ()), ("fate", 0, ((1, None, 3),)), ("call", "0", "crash", (), ()),
            ("call", 0, "write", (1, (-1,)), ()), ("call", 0, "write", (1, b"ab"), ()),
        ):
            desk = Odd(Settings(), Settings())
            desk.odd = [deed, ("tick", False)]
            self.assertEqual(caught(InvalidDeed, write_record, desk), {"deed": deed})

    def test_negative_numbers_and_none(self):
        class Odd(Desk):
            def deeds(self):
                return [("call", 0, "read", (None, -12), ()), ("fate", 0, (-3,))]

        self.assertEqual(write_record(Odd(Settings(), Settings())), record("call 0 read none -12", "fate 0 -3"))


class WayBackTest(unittest.TestCase):
    def check(self, desk):
        text = write_record(desk)
        other = read_record(text)
        self.assertIsInstance(other, Desk)
        self.assertEqual(write_record(other), text)
        self.assertEqual((other.first, other.second), (desk.first, desk.second))
        self.assertEqual(look(other.world), look(desk.world))
        self.assertEqual((other.deeds(), other.copies, other.girth), (desk.deeds(), desk.copies, desk.girth))
        caught(NothingLeft, other.redo)

    def test_small_desks(self):
        self.check(Desk(Settings(), Settings()))
        self.check(Desk(Settings(**OTHERS), Settings(**OTHERS), copies=1, girth=7))
        for name, value in OTHERS.items():
            second = {name: value} if name in ("size", "life") else {}
            self.check(Desk(Settings(**{name: value}), Settings(**second)))

    def test_what_could_be_redone_is_not_written(self):
        desk = desk_with(("tick", 1), ("tick", 2))
        desk.undo()
        self.assertEqual(read_record(write_record(desk)).deeds(), [("tick", 1)])

    def test_drawn_desks(self):
        for seed in range(30):
            random = Random(seed)
            desk = Desk(Settings(life=4), Settings(life=4, inbox=30))
            for _ in range(60):
                try:
                    desk.do(drawn_deed(random))
                except LossError:
                    pass
            self.check(desk)


class WrongTest(unittest.TestCase):
    def line(self, text):
        return caught(InvalidLine, read_record, text)["line"]

    def cause(self, text):
        try:
            read_record(text)
        except InvalidLine as error:
            return error.__cause__
        raise AssertionError("read")

    def test_what_is_no_string(self):
        for value in NOT_STRINGS:
            self.assertEqual(self.line(value), 0)

    def test_missing_lines(self):
        self.assertEqual(self.line(""), 1)
        lines = HEAD.split("\n")[:-1]
        for count in range(4):
            self.assertEqual(self.line("".join([line + "\n" for line in lines[:count]])), count + 1)

    def test_missing_newlines(self):
        lines = record("tick 1", "tick 2").split("\n")[:-1]
        for count in range(1, 7):
            self.assertEqual(self.line("\n".join(lines[:count])), count)

    def test_lines_without_text(self):
        lines = record("tick 1", "tick 2").split("\n")[:-1]
        for place in range(7):
            text = "\n".join([*lines[:place], "", *lines[place:]]) + "\n"
            self.assertEqual(self.line(text), place + 1)
        self.assertEqual(self.line("\n"), 1)

    def test_the_first_wrong_line_decides(self):
        self.assertEqual(self.line("lossway 1\nfirst x=1\nsecond y=1\nnet\n"), 2)
        self.assertEqual(self.line("lossway 1\nfirst\nsecond y=1\nnet"), 3)
        self.assertEqual(self.line(record("tick 1", "tick x", "tick y")), 6)
        self.assertEqual(self.line(record("tick x") + "tick 1"), 5)

    def test_title(self):
        for title in ("lossway 2", "Lossway 1", "lossway 1 ", " lossway 1", "lossway  1", "lossway 01", "lossway",
                      "first", "lossway 1\r"):
            self.assertEqual(self.line(title + HEAD[9:]), 1)

    def check_settings(self, words):
        for number, text in ((2, "lossway 1\nfirst{}\nsecond\n"), (3, "lossway 1\nfirst\nsecond{}\n")):
            self.assertEqual(self.line(text.format(words) + "net copies=2 girth=1400\n"), number, words)

    def test_settings(self):
        for words in (
            " ", "  inbox=9", " inbox=9 ", " inbox=9  outbox=3", " inbox", " inbox=", " =9", " inbox=9=9", "x",
            " Inbox=9",
            " outbox=3 inbox=9", " inbox=9 inbox=9", " inbox=9 inbox=8", " inbox=09", " inbox=+9", " inbox=9.0",
            " inbox=nine",
            " inbox=-9", " inbox=0", " size=100", " control=fast", " control='curve'", " control=Curve", " join=false",
            " join=0", " seek=1", " delay=True", " delay=False", " alive=-0", " alive=none", " alive=[]", " unknown=1",
            " self=1", " choices=1", " rest=1_0", " rest=\u0663", " rest=\u00b2", " rest=1\t", "\tinbox=9",
            " rest=1000000000000",
            " high=1", " least=9",
        ):
            self.check_settings(words)

    def test_defaults_are_left_out(self):
        for name, value in Settings().changed().__dict__.items():
            self.check_settings(f" {name}={value}")

    def test_causes_of_wrong_settings(self):
        for words, name in ((" inbox=0", "inbox"), (" unknown=1", "unknown"), (" size=64", "inbox"),
                            (" join=1", "join"), (" control=fast", "control"), (" least=9", "least")):
            cause = self.cause("lossway 1\nfirst" + words + "\nsecond\nnet copies=2 girth=1400\n")
            self.assertIsInstance(cause, InvalidSetting)
            self.assertEqual(cause.setting, name)

    def test_settings_that_do_not_fit_together(self):
        for words, name in (("size=512", "size"), ("life=7", "life"), ("size=512 life=7", "size")):
            text = f"lossway 1\nfirst\nsecond {words}\nnet copies=2 girth=1400\n"
            self.assertEqual(self.line(text), 4)
            self.assertEqual(self.cause(text).setting, name)

    def test_the_net(self):
        for line in (
            "net", "net ", "net copies=2", "net girth=1400", "net girth=1400 copies=2", "net copies=2 girth=1400 ",
            "net copies=2  girth=1400", " net copies=2 girth=1400", "net copies=02 girth=1400",
            "net copies=+2 girth=1400",
            "net copies=2 girth=1400 x=1", "Net copies=2 girth=1400", "net copies=0 girth=1400",
            "net copies=9 girth=1400",
            "net copies=2 girth=0", "net copies=2 girth=1401", "net copies=True girth=1400", "net copies=2 girth=none",
            "net copies= girth=1400", "net 2 1400", "net copies=2,girth=1400", "net copy=2 girth=1400",
            "net x=copies=2 girth=1400",
        ):
            self.assertEqual(self.line("lossway 1\nfirst\nsecond\n" + line + "\n"), 4, line)
        cause = self.cause("lossway 1\nfirst\nsecond\nnet copies=9 girth=0\n")
        self.assertIsInstance(cause, InvalidSetting)
        self.assertEqual(cause.setting, "copies")

    def test_ticks(self):
        for line in ("tick", "tick ", " tick 1", "tick  1", "tick 1 ", "tick 01", "tick +1", "tick -0", "tick 1 1",
                     "Tick 1", "tick x", "tick none", "tick []", "tick 1.0", "tick 1\r", "tock 1", "tick=1",
                     "tick 1000000000000", "tick \u0661", "tick 0x1", "tick 1001", "tick -1"):
            self.assertEqual(self.line(record(line)), 5, line)
        self.assertIsInstance(self.cause(record("tick 1001")), InvalidDeed)
        self.assertEqual(self.cause(record("tick -1")).deed, ("tick", -1))

    def test_fates(self):
        for line in (
            "fate", "fate 0", "fate 0 ", "fate  0 -", "fate 0 -  ", "fate 0 - -", "fate 0 --", "fate 0 ,", "fate 0 1,",
            "fate 0 ,1", "fate 0 1,,1", "fate 0 1, 1", "fate 0 1:", "fate 0 1:2", "fate 0 1:2:", "fate 0 1:2:3:4",
            "fate 0 :2:3",
            "fate 0 01", "fate 0 +1", "fate 0 1:02:3", "fate 0 x", "fate 0 none", "fate 0 []", "fate 0 -1", "fate 0 9",
            "fate 0 1,1,1", "fate 0 1:2:0", "fate 0 1:65536:1", "fate 2 1", "fate -1 1", "fate x 1", "fate 00 1",
            "Fate 0 1",
            "fate 0 (1,2,3)", "fate 0 1;1", "fate 0 1000000000000",
        ):
            self.assertEqual(self.line(record(line)), 5, line)
        cause = self.cause(record("fate 1 1", "fate 1 9"))
        self.assertIsInstance(cause, InvalidFate)
        self.assertEqual((cause.side, cause.place), (1, 1))
        self.assertEqual(self.cause(record("fate 2 1")).number, 2)

    def test_calls(self):
        for line in (
            "call", "call ", "call 0", "call 0 ", "call  0 crash", "call 0  crash", "call 0 crash ", "call 0 nothing",
            "call 0 Crash", "call 2 crash", "call -1 crash", "call x crash", "call 00 crash", "Call 0 crash",
            "call 0 crash 1",
            "call 0 listen", "call 0 listen 080", "call 0 listen +80", "call 0 listen 0", "call 0 listen x",
            "call 0 listen none", "call 0 listen []", "call 0 listen 80 81", "call 0 listen backlog=1 80",
            "call 0 listen 80 backlog=01", "call 0 listen 80 backlog=", "call 0 listen 80 backlog=-1",
            "call 0 listen 80 backlog=none", "call 0 listen 80 backlog=True", "call 0 listen 80 backlog=1 backlog=1",
            "call 0 listen 80 first=1", "call 0 listen 80 self=1", "call 0 listen 80 side=1", "call 0 listen 80 name=1",
            "call 0 listen 80 =1", "call 0 listen 80 backlog=1=1", "call 0 connect 80 source=7 first=5",
            "call 0 connect 80 first=5 first=6", "call 0 connect 80 first=1024", "call 0 connect 80 first=[1]",
            "call 0 connect 80 backlog=1", "call 0 li=sten 80", "call 0 accept 80", "call 0 write 1 [1]",
            "call 0 read 1 1",
            "call 0 listen 1000000000000", "call 0 start", "call 0 listen 8_0", "call 0 listen \u0663",
        ):
            self.assertEqual(self.line(record(line)), 5, line)

    def test_data(self):
        opened = ("call 1 listen 80", "call 0 connect 80")
        self.assertEqual(read_record(record(*opened, "call 0 write 1 [0.255]")).deeds()[2][3], (1, (0, 255)))
        for word in (
            "[256]", "[-1]", "[00]", "[01]", "[1.]", "[.1]", "[1..2]", "[1,2]", "[1 2]", "[ ]", "[1", "1]", "[]]",
            "[[]", "[[1]]",
            "[none]", "[+1]", "()", "[1.2].3", "[x]", "[\u0661]", "1.2", "", "[1000000000000]",
        ):
            self.assertEqual(self.line(record(*opened, "call 0 write 1 " + word)), 7, word)

    def test_causes_of_wrong_deeds(self):
        for lines, error in (
            (("call 0 read 1 1",), NoConnection), (("call 1 listen 80", "call 1 listen 80"), PortTaken),
            (("call 2 crash",), InvalidNumber), (("call 0 nothing",), InvalidDeed), (("call 0 crash 1",), InvalidDeed),
            (("call 0 listen 80 first=1",), InvalidDeed), (("call 0 listen 0",), InvalidNumber),
        ):
            self.assertEqual(self.line(record(*lines)), 4 + len(lines))
            self.assertIsInstance(self.cause(record(*lines)), error)

    def test_a_wrong_form_has_no_cause(self):
        for lines in (("tick x",), ("tick 01",), ("fate 0 1,",), ("call 0 crash ",), ("call 0 listen 080",), ("",)):
            self.assertIsNone(self.cause(record(*lines)), lines)
        for text in ("", "lossway\n", "lossway 1\nsecond\n", "lossway 1\nFirst x=1\n", HEAD + "tick 1"):
            self.assertIsNone(self.cause(text), text)

    def test_twelve_digits(self):
        opened = ("call 0 connect 80",)
        desk = read_record(record(*opened, "call 0 read 1 999999999999"))
        self.assertEqual(desk.deeds()[1][3], (1, 999999999999))
        self.assertEqual(self.line(record(*opened, "call 0 read 1 1000000000000")), 6)
        self.assertEqual(self.line(record(*opened, "call 0 read 1 -999999999999")), 6)
        self.assertEqual(self.cause(record(*opened, "call 0 read 1 -999999999999")).number, -999999999999)
        self.assertEqual(self.line(record(*opened, "call 0 read 1 " + "9" * 5000)), 6)

    def test_other_line_ends(self):
        for end in ("\r", "\u2028", "\x0b", "\x0c", "\x1c", "\x85"):
            self.assertEqual(self.line(HEAD + "tick 1" + end + "tick 1\n"), 5)

    def test_each_changed_sign_is_found_or_read_as_itself(self):
        text = record("call 1 listen 80 backlog=1", "call 0 connect 80 first=9 source=none", "fate 0 1,2:3:4", "tick 3")
        for place in range(len(text)):
            for sign in ("", " ", "0", "x", "=", "\n", "-"):
                changed = text[:place] + sign + text[place + 1:]
                try:
                    desk = read_record(changed)
                except InvalidLine as error:
                    self.assertTrue(1 <= error.line <= 9)
                else:
                    self.assertEqual(write_record(desk), changed)


class BoardTest(unittest.TestCase):
    def test_lines(self):
        world = World(Settings(), Settings())
        self.assertEqual(board(world), [])
        world.call(1, "listen", 80)
        world.call(0, "connect", 80)
        world.call(0, "connect", 9, source=65535)
        self.assertEqual(board(world), [
            "0    1 opening   40000>80           0        1        1 -",
            "0    2 opening   65535>9            0        1        1 -",
        ])
        world.advance(3)
        world.call(1, "accept", 80)
        world.call(0, "write", 1, list(range(20)))
        self.assertEqual(board(world), [
            "0    1 open      40000>80           1       17        1 -",
            "0    2 gone      65535>9            0        1        1 reset",
            "1    1 open         80>40000        1        1        1 -",
        ])
        world.advance(20)
        self.assertEqual(board(world)[0], "0    1 open      40000>80          21       21        1 -")
        self.assertEqual(board(world)[2], "1    1 open         80>40000        1        1       21 -")

    def test_stations_that_are_down(self):
        world = open_world()
        world.call(0, "crash")
        self.assertEqual([line[0] for line in board(world)], ["1"])
        world.call(1, "crash")
        self.assertEqual(board(world), [])

    def test_handed_connections_alone(self):
        world = World(Settings(), Settings())
        world.call(1, "listen", 80)
        world.call(0, "connect", 80)
        world.advance(3)
        self.assertEqual([line[0] for line in board(world)], ["0"])

    def test_reasons_and_states(self):
        world = open_world(Settings(rest=30))
        world.call(0, "close", 1)
        world.advance(3)
        world.call(1, "close", 1)
        world.advance(3)
        words = [line.split() for line in board(world)]
        self.assertEqual([(row[2], row[-1]) for row in words], [("resting", "-"), ("gone", "done")])
        world.call(0, "abort", 1)
        self.assertEqual(board(world)[0], "0    1 gone      40000>80           2        2        1 done")

    def test_wide_numbers(self):
        world = open_world(Settings(size=4294967296))
        for side in (0, 1):
            end = world.stations[side].connection(1)
            end.una, end.top, end.inbox.next_offset = 12345678, 123456789, 99999999
        self.assertEqual(board(world)[0], "0    1 open      40000>80    12345678 123456789 99999999 -")

    def test_the_board_is_fresh_and_changes_nothing(self):
        world = open_world()
        before = look(world)
        lines = board(world)
        lines.append(5)
        self.assertEqual(len(board(world)), 2)
        self.assertEqual(look(world), before)


if __name__ == "__main__":
    unittest.main()
