"""lossway.segments: promises 10 to 12."""

import unittest
from itertools import combinations, permutations
from unittest.mock import ANY

from lossway.errors import InvalidSegment
from lossway.segments import Segment
from tests.values import NOT_INTEGERS, NOT_SEQUENCES, NOT_STRINGS, caught

NAMES = ("source", "target", "tag", "mark", "flags", "seq", "ack",
         "window", "urgent", "piece", "cookie", "blocks", "data")
DEFAULTS = {"tag": 0, "mark": 0, "flags": "", "seq": 0, "ack": 0, "window": 0, "urgent": 0, "piece": 0,
            "cookie": (), "blocks": (), "data": ()}
LONG = 4294967295
RANGES = {"source": (1, 65535), "target": (1, 65535), "tag": (0, LONG), "mark": (0, LONG), "seq": (0, LONG),
          "ack": (0, LONG), "window": (0, 65535), "urgent": (0, 65535), "piece": (0, 65535)}
FULL = (5, 80, 1, 2, "SAFRU", 3, 4, 6, 7, 8, (9, 10, 11, 12, 13, 14), ((15, 16), (17, 18), (19, 20)), (21, 22))
ALL_FLAGS = ["".join(letters) for count in range(6) for letters in combinations("SAFRU", count)]
# For each field a value that it cannot have.
WRONG = {**{name: -1 for name in RANGES}, "flags": "X", "cookie": (1,), "blocks": ((1,),), "data": (256,)}


def made(**fields):
    """A segment with these fields, made by its class."""
    return Segment(fields.pop("source", 5), fields.pop("target", 80), **fields)


def fields_of(segment):
    return tuple([getattr(segment, name) for name in NAMES])


class FieldsTest(unittest.TestCase):
    def check_refused(self, name, value):
        self.assertEqual(caught(InvalidSegment, made, **{name: value}), {"part": name}, (name, value))

    def test_defaults(self):
        segment = Segment(5, 80)
        self.assertEqual(vars(segment), {"source": 5, "target": 80, **DEFAULTS})

    def test_all_fields(self):
        segment = Segment(FULL[0], FULL[1], **dict(zip(NAMES[2:], FULL[2:])))
        self.assertEqual(fields_of(segment), FULL)

    def test_ports_may_be_keywords_and_the_rest_must_be(self):
        self.assertEqual(fields_of(Segment(target=80, source=5)), fields_of(Segment(5, 80)))
        with self.assertRaises(TypeError):
            Segment(5, 80, 0)
        with self.assertRaises(TypeError):
            Segment(5)

    def test_numbers_at_their_ends(self):
        for name, (low, high) in RANGES.items():
            for value in (low, low + 1, high - 1, high):
                self.assertEqual(getattr(made(**{name: value}), name), value)
            for value in (low - 1, high + 1, -10 ** 12, 10 ** 12, *NOT_INTEGERS):
                self.check_refused(name, value)

    def test_all_strings_of_flags(self):
        self.assertEqual(len(ALL_FLAGS), 32)
        for flags in ALL_FLAGS:
            self.assertEqual(made(flags=flags).flags, flags)

    def test_other_flags(self):
        orders = ["".join(letters) for count in range(2, 6) for letters in permutations("SAFRU", count)]
        doubled = [flags + letter for flags in ALL_FLAGS for letter in flags]
        foreign = ["X", "s", "a", "SX", " ", "S ", " S", "SA\n", "0"]
        for flags in (*[flags for flags in orders if flags not in ALL_FLAGS], *doubled, *foreign, *NOT_STRINGS):
            self.check_refused("flags", flags)

    def test_cookies(self):
        for cookie in ((), [], (0,) * 6, [LONG] * 6, (1, 2, 3, 4, 5, 6)):
            self.assertEqual(made(cookie=cookie).cookie, tuple(cookie))
        for count in (1, 2, 3, 4, 5, 7, 12):
            self.check_refused("cookie", (1,) * count)
        for wrong in (-1, LONG + 1, *NOT_INTEGERS):
            for place in range(6):
                self.check_refused("cookie", [*range(place), wrong, *range(place + 1, 6)])
        for value in NOT_SEQUENCES:
            self.check_refused("cookie", value)

    def test_blocks(self):
        for count in range(4):
            blocks = [[at, LONG - at] for at in range(count)]
            self.assertEqual(made(blocks=blocks).blocks, tuple([(at, LONG - at) for at in range(count)]))
        self.assertEqual(made(blocks=((0, 0), [LONG, LONG], (5, 3))).blocks, ((0, 0), (LONG, LONG), (5, 3)))
        self.check_refused("blocks", ((1, 2),) * 4)
        self.check_refused("blocks", (1, 2))
        for pair in ((), (1,), (1, 2, 3), *NOT_SEQUENCES):
            self.check_refused("blocks", [pair])
            self.check_refused("blocks", [(1, 2), (1, 2), pair])
        for wrong in (-1, LONG + 1, *NOT_INTEGERS):
            self.check_refused("blocks", [(wrong, 1)])
            self.check_refused("blocks", [(1, 1), (1, wrong)])
        for value in NOT_SEQUENCES:
            self.check_refused("blocks", value)

    def test_data(self):
        for data in ((), [], [0], (255,), [0] * 1400, tuple([at % 256 for at in range(1400)])):
            self.assertEqual(made(data=data).data, tuple(data))
        self.check_refused("data", [0] * 1401)
        for wrong in (-1, 256, *NOT_INTEGERS):
            self.check_refused("data", [wrong])
            self.check_refused("data", (*[0] * 1399, wrong))
        for value in NOT_SEQUENCES:
            self.check_refused("data", value)

    def test_the_first_wrong_field_decides(self):
        for at, name in enumerate(NAMES):
            wrong = {other: WRONG[other] for other in reversed(NAMES[at:])}
            self.assertEqual(caught(InvalidSegment, made, **wrong), {"part": name})

    def test_no_relation_between_the_fields_is_checked(self):
        segment = made(source=9, target=9, flags="SFR", ack=5, urgent=7, blocks=((9, 3), (9, 3)), data=(1,))
        self.assertEqual((segment.flags, segment.ack, segment.urgent), ("SFR", 5, 7))

    def test_lists_are_copied(self):
        cookie, pair, data = [1, 2, 3, 4, 5, 6], [7, 8], [9]
        blocks = [pair]
        segment = made(cookie=cookie, blocks=blocks, data=data)
        cookie[0] = pair[0] = data[0] = 99
        blocks.append((1, 2))
        data.append(3)
        cookie.clear()
        self.assertEqual((segment.cookie, segment.blocks, segment.data), ((1, 2, 3, 4, 5, 6), ((7, 8),), (9,)))

    def test_sequences_become_tuples(self):
        segment = made(cookie=[1] * 6, blocks=[[1, 2], [3, 4]], data=[5])
        for value in (segment.cookie, segment.blocks, *segment.blocks, segment.data):
            self.assertIs(value.__class__, tuple)


class ExtentTest(unittest.TestCase):
    def test_extent(self):
        for flags in ALL_FLAGS:
            for count in (0, 1, 1400):
                wanted = count + ("S" in flags) + ("F" in flags)
                self.assertEqual(made(flags=flags, data=[0] * count).extent, wanted)


class RowTest(unittest.TestCase):
    def test_row(self):
        self.assertEqual(Segment(5, 80).row(), (5, 80, 0, 0, "", 0, 0, 0, 0, 0, (), (), ()))
        row = Segment.of_row(FULL).row()
        self.assertIs(row.__class__, tuple)
        self.assertEqual(row, FULL)

    def test_of_row(self):
        rows = (FULL, list(FULL), [*FULL[:10], list(FULL[10]), [list(block) for block in FULL[11]], list(FULL[12])])
        for row in rows:
            segment = Segment.of_row(row)
            self.assertIs(segment.__class__, Segment)
            self.assertEqual(fields_of(segment), FULL)

    def test_of_row_copies(self):
        row = [*FULL[:12], [21, 22]]
        segment = Segment.of_row(row)
        row[12].append(23)
        row[0] = 7
        self.assertEqual(segment.row(), FULL)

    def test_of_row_refuses_other_values(self):
        for row in (FULL[:12], (*FULL, 0), [], (), [FULL], *NOT_SEQUENCES, "1234567890123"):
            self.assertEqual(caught(InvalidSegment, Segment.of_row, row), {"part": "row"})

    def test_of_row_refuses_the_first_wrong_field(self):
        for at, name in enumerate(NAMES):
            row = [*FULL[:at], *[WRONG[other] for other in NAMES[at:]]]
            self.assertEqual(caught(InvalidSegment, Segment.of_row, row), {"part": name})


class ChangedTest(unittest.TestCase):
    OTHER = (6, 81, 101, 102, "SF", 103, 104, 106, 107, 108, (), ((1, 2),), (3, 4, 5))

    def test_each_field(self):
        segment = Segment.of_row(FULL)
        for at, name in enumerate(NAMES):
            changed = segment.changed(**{name: self.OTHER[at]})
            self.assertIs(changed.__class__, Segment)
            self.assertEqual(changed.row(), (*FULL[:at], self.OTHER[at], *FULL[at + 1:]))
            self.assertEqual(segment.row(), FULL)

    def test_all_fields_and_none(self):
        segment = Segment.of_row(FULL)
        self.assertEqual(segment.changed(**dict(zip(NAMES, self.OTHER))).row(), self.OTHER)
        same = segment.changed()
        self.assertIsNot(same, segment)
        self.assertEqual(same.row(), FULL)

    def test_changes_to_empty_values(self):
        segment = Segment.of_row(FULL)
        for name, empty in (("tag", 0), ("flags", ""), ("window", 0), ("cookie", ()), ("blocks", []), ("data", [])):
            self.assertEqual(getattr(segment.changed(**{name: empty}), name), tuple(empty) if empty == [] else empty)

    def test_copies(self):
        data = [1]
        changed = Segment(5, 80).changed(data=data)
        data.append(2)
        self.assertEqual(changed.data, (1,))

    def test_an_unknown_name_comes_before_any_value(self):
        segment = Segment(5, 80)
        for name in ("row", "extent", "Source", "", "a b"):
            self.assertEqual(caught(InvalidSegment, segment.changed, **{name: 1}), {"part": name})
            self.assertEqual(caught(InvalidSegment, segment.changed, source=0, **{name: 1}), {"part": name})

    def test_the_first_unknown_name_decides(self):
        segment = Segment(5, 80)
        self.assertEqual(caught(InvalidSegment, segment.changed, zeta=1, alpha=1), {"part": "zeta"})
        self.assertEqual(caught(InvalidSegment, segment.changed, tag=1, alpha=1, zeta=1), {"part": "alpha"})

    def test_the_first_wrong_field_decides(self):
        segment = Segment.of_row(FULL)
        for at, name in enumerate(NAMES):
            wrong = {other: WRONG[other] for other in reversed(NAMES[at:])}
            self.assertEqual(caught(InvalidSegment, segment.changed, **wrong), {"part": name})
            self.assertEqual(caught(InvalidSegment, segment.changed, **{name: None}), {"part": name})
        self.assertEqual(segment.row(), FULL)

    def test_python_refuses_the_keyword_self(self):
        with self.assertRaises(TypeError):
            Segment(5, 80).changed(**{"self": 1})


class EqualTest(unittest.TestCase):
    def test_equal_rows(self):
        self.assertIs(Segment.of_row(FULL) == Segment.of_row(list(FULL)), True)
        self.assertIs(Segment.of_row(FULL) != Segment.of_row(FULL), False)
        self.assertIs(made(data=[1]) == made(data=(1,)), True)

    def test_each_field_counts(self):
        segment = Segment.of_row(FULL)
        for at, name in enumerate(NAMES):
            self.assertIs(segment == segment.changed(**{name: ChangedTest.OTHER[at]}), False)

    def test_equals_no_other_value(self):
        segment = Segment.of_row(FULL)
        for other in (FULL, list(FULL), None, 5, str(segment), ANY, object()):
            self.assertIs(segment == other, False)


class LineTest(unittest.TestCase):
    def test_example(self):
        segment = Segment(5, 80, flags="S", seq=7, window=64)
        self.assertEqual(str(segment), "    5>80    S     seq          7 ack          0 win    64 len    0")

    def test_widest(self):
        segment = Segment(65535, 65534, flags="SAFRU", seq=LONG, ack=LONG - 1, window=65533, data=[0] * 1400)
        self.assertEqual(str(segment), "65535>65534 SAFRU seq 4294967295 ack 4294967294 win 65533 len 1400")

    def test_each_field_by_itself(self):
        plain = str(Segment(7, 8))
        begins = {"source": (0, 5), "target": (6, 5), "flags": (12, 5), "seq": (22, 10), "ack": (37, 10),
                  "window": (52, 5), "data": (62, 4)}
        shown = {
            "source": (12345, "12345"), "target": (443, "443  "), "flags": ("SU", "SU   "), "seq": (81, "        81"),
            "ack": (LONG, str(LONG)), "window": (4660, " 4660"), "data": ([1] * 31, "  31"),
        }
        for name, (value, text) in shown.items():
            begin, width = begins[name]
            line = str(Segment(7, 8).changed(**{name: value}))
            self.assertEqual(line, plain[:begin] + text + plain[begin + width:], name)

    def test_the_line_is_one_plain_string(self):
        for flags in ("", "S", "SA", "A", "AF", "AR", "R", "AU", "AFU", "SAFRU"):
            line = str(Segment(40000, 80, flags=flags, seq=1, ack=2, window=3, data=[4]))
            self.assertIs(line.__class__, str)
            numbers = " seq          1 ack          2 win     3 len    1"
            self.assertEqual(line, "40000>80    " + flags.ljust(5) + numbers)

    def test_narrowest(self):
        line = "    1>2           seq          0 ack          0 win     0 len    0"
        self.assertEqual(str(Segment(1, 2)), line)
        self.assertEqual(str(Segment(1, 2, tag=5, mark=6, urgent=7, piece=8, cookie=[1] * 6, blocks=[(1, 2)])), line)


if __name__ == "__main__":
    unittest.main()
