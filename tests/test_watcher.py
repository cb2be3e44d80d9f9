"""The watcher: each rule broken by itself, what it remembers, and that right stations are never blamed."""

import unittest
from random import Random

from lossway.segments import Segment
from lossway.settings import Settings
from lossway.watcher import RULES, Watcher
from lossway.words import pack
from tests.values import NOT_SEQUENCES
from tests.worlds import drawn_world, open_world

SOURCE, TARGET = 40000, 80
MARK, PEER = 65537, 70000
SIZE = 1024
FIRST, PEER_FIRST = 1000, 1010


def own(offset):
    return (FIRST + offset) % SIZE


def peer(offset):
    return (PEER_FIRST + offset) % SIZE


def sent(flags="A", low=1, ack=1, blocks=(), **fields):
    """Words of the watched end, which stand at offsets."""
    fields = {"tag": PEER, "mark": MARK, "flags": flags, "seq": own(low), "ack": peer(ack), **fields}
    blocks = [(peer(one), peer(other)) for one, other in blocks]
    return pack(Segment(SOURCE, TARGET, blocks=blocks, **fields))


def came(flags="A", low=1, ack=1, **fields):
    """Words of the peer, which stand at offsets."""
    fields = {"tag": MARK, "mark": PEER, "flags": flags, "seq": peer(low), "ack": own(ack), "window": 20, **fields}
    return pack(Segment(TARGET, SOURCE, **fields))


def opening(**fields):
    return sent("S", 0, **{"tag": 0, "ack": 0, **fields})


def answer(**fields):
    return came("SA", 0, **{"ack": 1, "piece": 8, **fields})


def watcher(**choices):
    """A watcher that has seen an opening and its answer."""
    made = Watcher(Settings(**choices))
    made.see_out(opening())
    made.see_in(answer())
    return made


class RuleTest(unittest.TestCase):
    def check(self, made, words, rule):
        """The words break this rule, or none; all told before was right."""
        self.assertIsNone(made.blame)
        number = made._number
        self.assertEqual(made.see_out(words), rule)
        self.assertEqual(made.blame, None if rule is None else (number, rule))

    def test_the_names(self):
        self.assertEqual(RULES, ("form", "mark", "dead", "ports", "tag", "first", "gap", "edge", "piece", "bytes",
                                 "finish", "ack", "back", "blocks"))

    def test_a_right_stream(self):
        made = watcher()
        for words in (sent(), sent(data=[1, 2, 3]), sent(low=4, data=[4] * 8), sent("AF", 12, data=[5, 6])):
            self.check(made, words, None)
        made.see_in(came("AF", ack=15, data=[7, 8, 9]))
        self.check(made, sent(low=15, ack=5), None)
        self.check(made, sent(low=14, ack=5), None)

    def test_form(self):
        right = sent(data=[1])
        for words in ([], right[:-1], [*right, 0], [*right[:17], right[17] ^ 1, *right[18:]], *NOT_SEQUENCES,
                      [-1] * 19, [None] * 19):
            self.check(watcher(), words, "form")
        self.check(Watcher(Settings()), [5], "form")

    def test_a_lone_reset_is_passed(self):
        for segment in (Segment(1, 2, flags="R"), Segment(SOURCE, TARGET, flags="R", mark=MARK, data=[1], seq=77)):
            self.check(watcher(), pack(segment), None)
            self.check(Watcher(Settings()), pack(segment), None)
        made = watcher()
        self.check(made, pack(Segment(SOURCE, TARGET, flags="R", mark=MARK)), None)
        # It is no reset of the connection, which goes on.
        self.check(made, sent(data=[1]), None)

    def test_mark(self):
        self.check(watcher(), sent(mark=MARK + 1), "mark")
        self.check(Watcher(Settings()), sent(), "mark")
        self.check(watcher(), sent("AR", mark=0), "mark")
        self.check(watcher(), sent("AF", mark=PEER), "mark")
        self.check(watcher(), opening(mark=MARK + 1), None)

    def test_dead(self):
        made = watcher()
        self.check(made, sent("AR"), None)
        for words in (sent(), sent("AR"), opening(), sent(data=[1]), pack(Segment(1, 2, flags="A", mark=MARK))):
            self.check(made, words, "dead")
            made.blame = None
        self.check(made, opening(mark=MARK + 1), None)

    def test_ports(self):
        for ports in ((SOURCE + 1, TARGET), (SOURCE, TARGET + 1), (TARGET, SOURCE)):
            for flags, low, tag in (("A", 1, PEER), ("S", 0, 0), ("AR", 1, PEER)):
                segment = Segment(*ports, tag=tag, mark=MARK, flags=flags, seq=own(low), ack=peer(1))
                self.check(watcher(), pack(segment), "ports")

    def test_tag(self):
        self.check(watcher(), opening(tag=PEER), "tag")
        self.check(Watcher(Settings()), opening(tag=1), "tag")
        for flags in ("A", "AF", "AR", "AU"):
            self.check(watcher(), sent(flags, tag=PEER + 1), "tag")
            self.check(watcher(), sent(flags, tag=0), "tag")
        known = watcher()
        self.check(known, sent(), None)
        known.see_in(answer(mark=PEER + 1))
        self.check(known, sent(tag=PEER + 1), "tag")

    def test_tag_of_an_answer(self):
        made = Watcher(Settings())
        made.see_in(came("S", 0, tag=0, ack=0, piece=8))
        for words in (sent("SA", 0, 2), sent("SA", 0, 0), sent("SA", 0, 1, tag=PEER + 1), sent("SA", 0, 1, tag=0)):
            self.check(Watcher(Settings()), words, "tag")
            self.check(made, words, "tag")
            made = Watcher(Settings())
            made.see_in(came("S", 0, tag=0, ack=0, piece=8))
        self.check(made, sent("SA", 0, 1), None)
        self.check(made, sent("SA", 0, 1), None)
        self.check(made, sent(data=[1] * 8), None)

    def test_tag_without_an_opening_of_the_peer(self):
        made = Watcher(Settings())
        self.check(made, opening(), None)
        self.check(made, sent(), "tag")

    def test_the_opening_has_the_ports_of_the_segment(self):
        for ports in ((TARGET + 1, SOURCE), (TARGET, SOURCE + 1), (SOURCE, TARGET)):
            made = Watcher(Settings())
            made.see_out(opening())
            made.see_in(pack(Segment(*ports, tag=MARK, mark=PEER, flags="SA", seq=PEER_FIRST, ack=own(1))))
            self.check(made, sent(), "tag")

    def test_flags_that_break_the_rule_of_the_tag(self):
        for flags in ("SF", "SR", "SU", "SAF", "SAR", "SAU", "SAFRU"):
            self.check(watcher(), sent(flags, 0), "tag")
            self.check(watcher(), sent(flags, 0, tag=0), "tag")
            self.check(watcher(), sent(flags, 0, mark=5), "tag")
        for flags in ("", "F", "U", "FU", "RU", "FR"):
            self.check(watcher(), sent(flags), "tag")

    def test_first(self):
        self.check(watcher(), opening(seq=own(1)), "first")
        self.check(watcher(), sent("SA", 0, seq=FIRST + SIZE), "first")
        self.check(watcher(), opening(data=[1]), "first")
        self.check(watcher(), sent("SA", 0, data=[1]), "first")
        self.check(Watcher(Settings()), opening(data=[1]), "first")
        self.check(watcher(), opening(), None)
        self.check(watcher(), sent("SA", 0), None)
        self.check(watcher(), opening(window=5, piece=3, ack=77, urgent=9), None)

    def test_a_reset_is_passed(self):
        # Neither its numbers nor its bytes count.
        for words in (sent("AR", 500, 500), sent("AR", data=[1] * 99), sent("AFR", blocks=[(5, 4)])):
            made = watcher()
            self.check(made, words, None)
            self.check(made, sent(), "dead")

    def test_gap_without_an_extent(self):
        for low, rule in ((1, None), (0, None), (-1, "gap"), (2, "gap"), (500, "gap")):
            self.check(watcher(), sent(low=low), rule)
        made = watcher()
        made.see_out(sent(data=[1] * 8))
        made.see_out(sent(low=9, data=[1] * 8))
        for low, rule in ((17, None), (0, None), (16, "gap"), (18, "gap"), (9, "gap"), (1, "gap")):
            self.check(made, sent(low=low), rule)
            made.blame = None
        made.see_in(came(ack=9))
        for low, rule in ((17, None), (8, None), (0, "gap"), (9, "gap")):
            self.check(made, sent(low=low), rule)
            made.blame = None

    def test_gap_before_the_own_opening_is_acknowledged(self):
        made = Watcher(Settings())
        made.see_out(opening())
        made.see_in(came("S", 0, tag=0, ack=0))
        self.check(made, sent(low=-1), None)
        self.check(made, sent(low=0), "gap")
        made.blame = None
        made.see_in(came(ack=1))
        self.check(made, sent(low=0), None)

    def test_gap_with_an_extent(self):
        for low, rule in ((1, None), (2, "gap"), (0, "gap"), (-5, "gap"), (9, "gap")):
            self.check(watcher(), sent(low=low, data=[1, 1]), rule)
            self.check(watcher(), sent("AF", low), rule)
        made = watcher()
        made.see_out(sent(data=[1] * 8))
        for low, many, rule in ((1, 8, None), (4, 5, None), (8, 1, None), (8, 2, "gap"), (1, 9, "gap"), (10, 1, "gap"),
                                (0, 3, "gap")):
            self.check(made, sent(low=low, data=[1] * many), rule)
            made.blame = None
        self.check(made, sent("AF", 8, data=[1]), "gap")
        made.blame = None
        self.check(made, sent("AF", 9, data=[1]), None)

    def test_edge(self):
        made = watcher()
        made.see_in(came(window=5))
        # The answer told an edge of 21 before.
        self.check(made, sent(data=[1] * 8), None)
        self.check(made, sent(low=9, data=[1] * 8), None)
        self.check(made, sent(low=17, data=[1] * 5), "edge")
        made.blame = None
        self.check(made, sent("AF", 17, data=[1] * 4), None)

    def test_the_finish_has_no_edge(self):
        made = watcher()
        made.see_in(answer(window=0))
        self.check(made, sent("AF"), None)
        made = Watcher(Settings())
        made.see_out(opening())
        made.see_in(answer(window=0))
        self.check(made, sent(data=[1]), "edge")
        made.blame = None
        self.check(made, sent("AF"), None)

    def test_the_edge_of_what_arrives(self):
        made = watcher()
        self.check(made, sent(data=[1] * 8), None)
        made.see_in(came(ack=9, window=3))
        made.see_in(came(ack=9, window=16))
        made.see_in(came(ack=5, window=3))
        self.check(made, sent(low=9, data=[1] * 8), None)
        self.check(made, sent(low=17, data=[1] * 8), None)
        self.check(made, sent(low=25, data=[1]), "edge")

    def test_piece(self):
        for told, choices, unit in ((8, {}, 8), (5, {}, 5), (12, {}, 8), (0, {}, 4), (0, {"least": 2}, 2),
                                    (1, {}, 1), (65535, {"piece": 11}, 11)):
            made = Watcher(Settings(**choices))
            made.see_out(opening())
            made.see_in(answer(piece=told, window=100))
            self.check(made, sent(data=[1] * unit), None)
            self.check(made, sent("AF", 1 + unit, data=[1] * (unit + 1)), "piece")

    def test_bytes(self):
        made = watcher()
        made.see_out(sent(data=[1, 2, 3, 4]))
        for low, data, rule in ((1, [1, 2, 3, 4], None), (2, [2, 3], None), (2, [2, 4], "bytes"), (1, [0], "bytes"),
                                (4, [5], "bytes"), (4, [4], None)):
            self.check(made, sent(low=low, data=data), rule)
            made.blame = None
        self.check(made, sent(low=5, data=[9]), None)
        self.check(made, sent(low=3, data=[3, 4, 8]), "bytes")

    def test_finish(self):
        made = watcher()
        made.see_out(sent("AF", data=[1, 2, 3]))
        for words, rule in (
            (sent("AF", data=[1, 2, 3]), None), (sent(data=[1, 2, 3]), None), (sent("AF", 3, data=[3]), None),
            (sent("AF", 4), None), (sent(low=2, data=[2]), None), (sent("AF", 2, data=[2]), "finish"),
            (sent(low=4, data=[9]), "finish"), (sent("AF", 3), "finish"), (sent("AF", 5), "finish"),
            (sent(low=5, data=[1]), "finish"), (sent(low=5), None), (sent(low=0), None),
        ):
            self.check(made, words, rule)
            made.blame = None

    def test_ack(self):
        made = watcher()
        self.check(made, sent(ack=2), "ack")
        made.blame = None
        made.see_in(came(data=[1, 2, 3]))
        self.check(made, sent(ack=5), "ack")
        made.blame = None
        self.check(made, sent(ack=2), None)
        self.check(made, sent(ack=4), None)
        made.see_in(came("AF", 6, data=[5]))
        self.check(made, sent(ack=5), "ack")
        made.blame = None
        made.see_in(came(low=4, data=[9, 9]))
        self.check(made, sent(ack=8), None)
        self.check(made, sent(ack=9), "ack")

    def test_back(self):
        made = watcher()
        made.see_out(sent())
        made.see_in(came(data=[1, 2, 3]))
        self.check(made, sent(ack=3), None)
        for ack in (2, 1, 0, -5):
            self.check(made, sent(ack=ack), "back")
            made.blame = None
        self.check(made, sent(ack=3), None)
        self.check(watcher(), sent(ack=0), None)
        self.check(watcher(), sent(ack=-1), "back")

    def test_blocks(self):
        made = watcher()
        made.see_out(sent())
        made.see_in(came(low=3, data=[1, 2, 3]))
        made.see_in(came(low=8, data=[1]))
        for blocks, rule in (
            ([(3, 6)], None), ([(3, 4), (8, 9)], None), ([(4, 6), (4, 5), (3, 6)], None), ([(3, 7)], "blocks"),
            ([(2, 4)], "blocks"), ([(3, 9)], "blocks"), ([(3, 3)], "blocks"), ([(5, 4)], "blocks"),
            ([(8, 9), (6, 7)], "blocks"), ([(-3, 4)], "blocks"), ([(0, 1)], "blocks"), ([(9, 10)], "blocks"),
        ):
            self.check(made, sent(blocks=blocks), rule)
            made.blame = None


class OrderTest(unittest.TestCase):
    def judge(self, *args, **fields):
        """The rule that a segment breaks behind three bytes, a finish and two bytes of the peer."""
        made = watcher()
        made.see_out(sent())
        made.see_in(came(data=[1, 2]))
        made.see_out(sent("AF", ack=2, data=[1, 2, 3]))
        return made.see_out(sent(*args, **fields))

    def test_the_first_of_several_broken_rules_is_told(self):
        # From row to row one rule more is kept, while all behind it are broken, as far as they can be at once.
        late = {"blocks": [(4, 5)]}
        self.assertEqual(self.judge("AF", 9, 9, data=[9] * 20, **late), "gap")
        self.assertEqual(self.judge("AF", 5, 9, data=[9] * 20, **late), "edge")
        self.assertEqual(self.judge("AF", 5, 9, data=[9] * 9, **late), "piece")
        self.assertEqual(self.judge("AF", 2, 9, data=[9], **late), "bytes")
        self.assertEqual(self.judge("AF", 2, 9, data=[2], **late), "finish")
        self.assertEqual(self.judge("AF", 1, 9, data=[1, 2, 3], **late), "ack")
        self.assertEqual(self.judge("AF", 1, 1, data=[1, 2, 3], **late), "back")
        self.assertEqual(self.judge("AF", 1, 2, data=[1, 2, 3], **late), "blocks")
        self.assertIsNone(self.judge("AF", 1, 2, data=[1, 2, 3]))

    def test_each_rule_comes_before_blocks(self):
        late = {"blocks": [(4, 5)]}
        for rule, low, ack, data in (("gap", 9, 2, []), ("edge", 5, 2, [1] * 20), ("piece", 5, 2, [1] * 9),
                                     ("bytes", 1, 2, [9]), ("finish", 5, 2, [1]), ("ack", 5, 4, []),
                                     ("back", 5, 1, [])):
            self.assertEqual(self.judge("A", low, ack, data=data, **late), rule)
            self.assertEqual(self.judge("A", low, ack, data=data), rule)

    def test_the_rules_before_the_offsets(self):
        segment = Segment(5, TARGET, tag=9, mark=MARK, flags="SF", seq=4, data=[1])
        made = watcher()
        made.see_out(sent("AR"))
        self.assertEqual(made.see_out(pack(segment)), "dead")
        self.assertEqual(watcher().see_out(pack(segment)), "ports")
        self.assertEqual(watcher().see_out(pack(segment.changed(source=SOURCE))), "tag")
        self.assertEqual(watcher().see_out(pack(segment.changed(source=SOURCE, flags="SA", tag=PEER))), "tag")
        answered = segment.changed(source=SOURCE, flags="SA", tag=PEER, ack=peer(1))
        self.assertEqual(watcher().see_out(pack(answered)), "first")
        self.assertEqual(watcher().see_out(pack(segment.changed(source=SOURCE, flags="A", mark=3))), "mark")


class BlameTest(unittest.TestCase):
    def test_the_number_of_earlier_calls(self):
        for many in range(4):
            made = watcher()
            for _ in range(many):
                made.see_in(came())
                self.assertIsNone(made.see_out(sent()))
            self.assertIsNone(made.blame)
            self.assertEqual(made.see_out([]), "form")
            self.assertEqual(made.blame, (many + 1, "form"))
        made = Watcher(Settings())
        self.assertEqual((made.see_out(None), made.blame), ("form", (0, "form")))

    def test_nothing_is_told_behind_it(self):
        made = watcher()
        self.assertEqual(made.see_out(sent(low=9)), "gap")
        before = {name: str(value) for name, value in vars(made).items()}
        for words in (sent(), sent(low=9), [], sent(ack=7), opening(mark=3)):
            self.assertIsNone(made.see_out(words))
            self.assertIsNone(made.see_in(words))
        self.assertIsNone(made.see_in(came(data=[1])))
        self.assertEqual({name: str(value) for name, value in vars(made).items()}, before)
        self.assertEqual(made.blame, (1, "gap"))

    def test_see_in_tells_nothing(self):
        made = Watcher(Settings())
        for words in (None, [], [5], answer(), came(), opening(), pack(Segment(1, 2, flags="R"))):
            self.assertIsNone(made.see_in(words))
        self.assertIsNone(made.blame)

    def test_words_are_not_changed(self):
        made = watcher()
        words = sent(data=[1, 2])
        kept = list(words)
        made.see_out(words)
        words[20] = 9
        self.assertEqual(made.see_out(tuple(kept)), None)
        self.assertEqual(made.see_out(sent(data=[1, 9])), "bytes")

    def test_what_of_the_settings_it_uses(self):
        made = watcher(inbox=9, outbox=1, control="fixed", life=3, seek=True, alive=9)
        self.assertIsNone(made.see_out(sent(data=[1] * 8)))


class IgnoredTest(unittest.TestCase):
    """What arrives and does not count."""

    def arrived(self, *lists):
        """True if the bytes of the last list count for a watcher."""
        made = watcher()
        made.see_out(sent())
        for words in lists:
            made.see_in(words)
        return made.see_out(sent(ack=3)) is None

    def test_what_counts(self):
        self.assertTrue(self.arrived(came(data=[1, 2])))
        self.assertTrue(self.arrived(came("AFU", data=[1])))
        self.assertTrue(self.arrived(came(low=0, data=[9, 1, 2])))
        self.assertTrue(self.arrived(came(low=2, data=[2]), came(data=[1])))

    def test_what_does_not(self):
        bent = came(data=[1, 2])
        bent[3] ^= 1
        for words in (
            bent, None, [], came("AR", data=[1, 2]), came("R", data=[1, 2]), came("F", data=[1, 2]),
            came("", data=[1, 2]), came("U", data=[1, 2]), came("SA", data=[1, 2]), came(tag=MARK + 1, data=[1, 2]),
            came(mark=PEER + 1, data=[1, 2]), came(low=-1, data=[1] * 4), came(ack=2, data=[1, 2]),
        ):
            self.assertFalse(self.arrived(words))
        for ports in ((TARGET + 1, SOURCE), (TARGET, SOURCE + 1), (SOURCE, TARGET)):
            segment = Segment(*ports, tag=MARK, mark=PEER, flags="A", seq=peer(1), ack=own(1), data=[1, 2])
            self.assertFalse(self.arrived(pack(segment)))

    def test_a_record_without_a_peer_takes_nothing(self):
        made = watcher()
        # The own end has not named its peer yet, so bytes that come before that do not count.
        made.see_in(came(data=[1, 2]))
        made.see_out(sent())
        self.assertEqual(made.see_out(sent(ack=2)), "ack")

    def test_an_acknowledgement_that_does_not_count(self):
        made = watcher()
        made.see_out(sent(data=[1] * 8))
        made.see_in(came(ack=10))
        made.see_in(came(low=-1, ack=9))
        self.assertEqual(made.see_out(sent(low=8)), "gap")

    def test_a_later_opening_takes_the_place(self):
        made = Watcher(Settings())
        made.see_out(opening())
        made.see_in(answer(window=3, piece=2))
        made.see_in(answer(window=6, piece=5))
        self.assertIsNone(made.see_out(sent(data=[1] * 5)))
        self.assertEqual(made.see_out(sent(low=6, data=[1] * 2)), "edge")
        # Once the peer is known, no opening tells anything new.
        made = Watcher(Settings())
        made.see_out(opening())
        made.see_in(answer(window=3, piece=2))
        made.see_out(sent())
        made.see_in(answer(window=60, piece=8))
        self.assertEqual(made.see_out(sent(data=[1] * 3)), "piece")
        made.blame = None
        made.see_out(sent(data=[1] * 2))
        self.assertEqual(made.see_out(sent(low=3, data=[1] * 2)), "edge")

    def test_an_answer_acknowledges_the_opening(self):
        for words, low in ((answer(), 0), (answer(ack=2), -1), (answer(tag=MARK + 1), -1), (came("S", 0, tag=0), -1),
                           (came("S", 0, ack=1), -1)):
            made = Watcher(Settings())
            made.see_out(opening())
            made.see_in(came("S", 0, tag=0, ack=0))
            made.see_in(words)
            self.assertEqual(made.see_out(sent(low=low)), None)
            self.assertEqual(made.see_out(sent(low=-1 - low)), "gap")


class RightStationTest(unittest.TestCase):
    def watch(self, settings, trace):
        made = Watcher(settings)
        for event in trace:
            if event[0] == "in":
                made.see_in(event[1])
            elif event[0] == "out" and made.see_out(event[1]) is not None:
                return made.blame
        return made.blame

    def test_a_small_world(self):
        world = open_world()
        world.call(0, "write", 1, list(range(50)))
        world.advance(20)
        for side in (0, 1):
            self.assertIsNone(self.watch(Settings(), world.trace(side)))

    def test_drawn_worlds(self):
        sent_lists = crashed = 0
        for seed in range(150):
            world, _, settings = drawn_world(seed)
            for side in (0, 1):
                self.assertIsNone(self.watch(settings[side], world.trace(side)), seed)
                sent_lists += world.net.sent(side)
                crashed += world.stations[side].era > 1
        self.assertGreater(sent_lists, 10000)
        self.assertGreater(crashed, 10)

    def test_changed_words_are_found(self):
        found = set()
        for seed in range(60):
            world, _, settings = drawn_world(seed)
            random = Random(seed)
            for side in (0, 1):
                trace = world.trace(side)
                outs = [place for place, event in enumerate(trace) if event[0] == "out"]
                for place in random.sample(outs, min(len(outs), 5)):
                    blame = self.watch(settings[side], self.forged(random, trace, place))
                    if blame is not None:
                        found.add(blame[1])
        self.assertGreater(len(found), 8)

    def forged(self, random, trace, place):
        """The trace with another number in one sent list, and the sum that belongs to it."""
        words = list(trace[place][1])
        at = random.choice([*range(17), *range(19, len(words))])
        words[at] = random.randint(0, 255)
        words[17] = words[18] = 0
        words[17:19] = divmod(sum([(index + 1) * word for index, word in enumerate(words)]) % 65537, 65536)
        return trace[:place] + [("out", tuple(words))] + trace[place + 1:]


if __name__ == "__main__":
    unittest.main()
