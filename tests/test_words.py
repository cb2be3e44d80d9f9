"""lossway.words: promises 13 and 14."""

import unittest
from itertools import combinations
from random import Random

from lossway.errors import InvalidWords, WrongSum
from lossway.segments import Segment
from lossway.sums import check_sum
from lossway.words import pack, unpack
from tests.values import NOT_INTEGERS, NOT_SEQUENCES, caught

LONG = 4294967295
COOKIE = (65536, 65537, 2, LONG, 0, 131073)
BLOCKS = ((65536, 65538), (3, 4), (LONG, 0))
WIDEST = Segment(65535, 65535, tag=LONG, mark=LONG, flags="SAFRU", seq=LONG, ack=LONG, window=65535, urgent=65535,
                 piece=65535, cookie=(LONG,) * 6, blocks=((LONG, LONG),) * 3, data=(255,) * 1400)
SMALL = Segment(5, 80, flags="A", seq=7, ack=9, window=64)


def summed(words):
    """The words with their own sum at the places 17 and 18."""
    bare = [*words[:17], 0, 0, *words[19:]]
    total = check_sum(bare)
    return [*words[:17], total // 65536, total % 65536, *words[19:]]


def with_word(words, place, word):
    return summed([*words[:place], word, *words[place + 1:]])


def some_segment(random):
    def number(most):
        return random.choice((0, 1, most, random.randint(0, most), min(most, 65535), min(most, 65536)))

    return Segment(
        number(65534) + 1, number(65534) + 1, tag=number(LONG), mark=number(LONG),
        flags="".join([letter for letter in "SAFRU" if random.random() < 0.5]),
        seq=number(LONG), ack=number(LONG), window=number(65535), urgent=number(65535), piece=number(65535),
        cookie=[number(LONG) for _ in range(random.choice((0, 6)))],
        blocks=[(number(LONG), number(LONG)) for _ in range(random.randint(0, 3))],
        data=[number(255) for _ in range(random.choice((0, 1, 2, 30, 1400)))],
    )


class PackTest(unittest.TestCase):
    def test_example(self):
        words = pack(Segment(5, 80, flags="S", seq=7, window=64))
        self.assertEqual(words, [5, 80, 0, 0, 0, 0, 1, 0, 7, 0, 0, 64, 0, 0, 0, 0, 0, 0, 1003])
        self.assertIs(words.__class__, list)

    def test_each_field_has_its_place(self):
        fields = {
            "tag": (2, 3), "mark": (4, 5), "seq": (7, 8), "ack": (9, 10),
            "window": (11,), "urgent": (12,), "piece": (13,),
        }
        for name, places in fields.items():
            value = 3 * 65536 + 9 if len(places) == 2 else 9
            words = pack(Segment(1, 2, **{name: value}))
            wanted = [1, 2, *[0] * 17]
            wanted[places[-1]] = 9
            if len(places) == 2:
                wanted[places[0]] = 3
            self.assertEqual(words, summed(wanted), name)

    def test_flags(self):
        worth = {"S": 1, "A": 2, "F": 4, "R": 8, "U": 16}
        for count in range(6):
            for letters in combinations("SAFRU", count):
                flags = "".join(letters)
                words = pack(Segment(1, 2, flags=flags))
                self.assertEqual(words[6], sum([worth[letter] for letter in letters]))
                self.assertEqual(unpack(words).flags, flags)

    def test_the_parts_behind_the_header(self):
        words = pack(Segment(1, 2, cookie=COOKIE, blocks=BLOCKS, data=(0, 255, 7)))
        self.assertEqual(words[14:17], [12, 3, 3])
        self.assertEqual(words[19:31], [1, 0, 1, 1, 0, 2, 65535, 65535, 0, 0, 2, 1])
        self.assertEqual(words[31:43], [1, 0, 1, 2, 0, 3, 0, 4, 65535, 65535, 0, 0])
        self.assertEqual(words[43:], [0, 255, 7])

    def test_the_counts_of_missing_parts_are_0(self):
        for segment, counts, size in (
            (Segment(1, 2), [0, 0, 0], 19),
            (Segment(1, 2, cookie=COOKIE), [12, 0, 0], 31),
            (Segment(1, 2, blocks=BLOCKS[:1]), [0, 1, 0], 23),
            (Segment(1, 2, blocks=BLOCKS[:2], data=[9]), [0, 2, 1], 28),
            (WIDEST, [12, 3, 1400], 19 + 12 + 12 + 1400),
        ):
            words = pack(segment)
            self.assertEqual((words[14:17], len(words)), (counts, size))

    def test_the_sum_covers_all_words_and_takes_two_places(self):
        for segment in (SMALL, WIDEST, Segment(1, 2, cookie=COOKIE, blocks=BLOCKS, data=(1, 2))):
            self.assertEqual(pack(segment), summed(pack(segment)))
        # 65400 + 2 * 68 is exactly 65536, which the second word alone cannot hold.
        self.assertEqual(pack(Segment(65400, 68))[17:19], [1, 0])
        self.assertEqual(unpack(pack(Segment(65400, 68))), Segment(65400, 68))
        self.assertEqual(caught(WrongSum, unpack, [*pack(Segment(65400, 68))[:17], 0, 0]), {"place": 17})

    def test_the_result_is_fresh(self):
        segment = Segment(1, 2, data=[3])
        words = pack(segment)
        words[0] = 99
        words.append(4)
        self.assertEqual(pack(segment), pack(Segment(1, 2, data=[3])))

    def test_both_directions(self):
        random = Random(1)
        segments = [SMALL, WIDEST, Segment(1, 1), Segment(1, 2, cookie=COOKIE, blocks=BLOCKS, data=(1, 2))]
        for segment in segments + [some_segment(random) for _ in range(300)]:
            words = pack(segment)
            kept = list(words)
            self.assertEqual(unpack(words), segment)
            self.assertEqual(unpack(tuple(words)), segment)
            self.assertEqual(pack(unpack(words)), kept)
            self.assertEqual(words, kept)

    def test_later_changes_of_the_list_have_no_effect(self):
        words = pack(Segment(1, 2, cookie=COOKIE, blocks=BLOCKS, data=(1, 2)))
        segment = unpack(words)
        words[:] = [0] * len(words)
        self.assertEqual(segment, Segment(1, 2, cookie=COOKIE, blocks=BLOCKS, data=(1, 2)))
        self.assertIs(segment.__class__, Segment)


class UnpackTest(unittest.TestCase):
    def check_place(self, words, place):
        self.assertEqual(caught(InvalidWords, unpack, words), {"place": place})
        self.assertEqual(caught(InvalidWords, unpack, tuple(words)), {"place": place})

    def test_no_sequence(self):
        for value in NOT_SEQUENCES:
            self.assertEqual(caught(InvalidWords, unpack, value), {"place": 0})

    def test_items_that_are_no_words_come_first(self):
        words = pack(SMALL)
        for wrong in (-1, 65536, *NOT_INTEGERS):
            for place in range(len(words)):
                self.check_place([*words[:place], wrong, *words[place + 1:]], place)
            self.check_place([wrong], 0)
            self.check_place([0, 0, wrong, wrong], 2)
            self.check_place([*words, wrong], 19)
        # The first such item decides, and it comes before a short list, a wrong sum and wrong places.
        self.check_place([0, 0, *words[2:17], 9, "18"], 18)

    def test_too_short(self):
        for count in range(19):
            self.check_place([0] * count, count)
            self.check_place(pack(SMALL)[:count], count)

    def test_wrong_sum(self):
        for segment in (SMALL, WIDEST):
            words = pack(segment)
            for place in (*range(19), len(words) - 1):
                changed = [*words[:place], words[place] ^ 1, *words[place + 1:]]
                self.assertEqual(caught(WrongSum, unpack, changed), {"place": 17})
        with self.assertRaises(InvalidWords):
            unpack([0] * 18 + [1])

    def test_a_sum_that_is_only_equal_modulo_the_prime_is_wrong(self):
        words = [*pack(SMALL)[:17]]
        total = check_sum(words)
        self.assertLess(total + 65537, 131072)
        self.assertEqual(caught(WrongSum, unpack, [*words, 1, total + 1]), {"place": 17})
        self.assertEqual(caught(WrongSum, unpack, [*words, 2, total]), {"place": 17})

    def test_the_sum_comes_before_wrong_places(self):
        words = [0, 0, 0, 0, 0, 0, 32, 0, 0, 0, 0, 0, 0, 0, 1, 4, 1401, 0, 0]
        self.assertEqual(caught(WrongSum, unpack, words), {"place": 17})
        self.check_place(summed(words), 0)

    def test_each_wrong_place_of_the_header(self):
        words = pack(SMALL)
        for place, wrong, right in (
            (0, (0,), (1, 65535)),
            (1, (0,), (1, 65535)),
            (6, (32, 33, 64, 65535), (0, 1, 31)),
            (14, (1, 2, 6, 11, 13, 24, 65535), (0,)),
            (15, (4, 5, 65535), (0,)),
            (16, (1401, 65535), (0,)),
        ):
            for word in wrong:
                self.check_place(with_word(words, place, word), place)
            for word in right:
                changed = with_word(words, place, word)
                self.assertEqual(pack(unpack(changed)), changed)

    def test_the_least_wrong_place_decides(self):
        places = ((0, 0), (1, 0), (6, 32), (14, 1), (15, 4), (16, 1401))
        for at in range(len(places)):
            words = [*pack(SMALL), 256, 300]
            for place, word in places[at:]:
                words[place] = word
            self.check_place(summed(words), places[at][0])

    def test_the_other_places_of_the_header_may_hold_any_word(self):
        for place in (2, 3, 4, 5, 7, 8, 9, 10, 11, 12, 13):
            for word in (0, 1, 65535):
                words = with_word(pack(SMALL), place, word)
                self.assertEqual(pack(unpack(words)), words)

    def test_ends_too_early(self):
        for segment in (
            Segment(1, 2, data=(7, 8, 9)), Segment(1, 2, cookie=COOKIE), Segment(1, 2, blocks=BLOCKS),
            Segment(1, 2, cookie=COOKIE, blocks=BLOCKS, data=(7, 8, 9)), WIDEST,
        ):
            words = pack(segment)
            for count in range(19, min(len(words), 60)):
                self.check_place(summed(words[:count]), count)
            self.check_place(summed(words[:-1]), len(words) - 1)

    def test_too_long(self):
        for segment in (SMALL, Segment(1, 2, cookie=COOKIE, blocks=BLOCKS, data=(7, 8, 9)), WIDEST):
            words = pack(segment)
            for more in ([0], [256], [1, 2, 3], [65535] * 200):
                self.check_place(summed([*words, *more]), len(words))

    def test_bytes_above_255(self):
        segment = Segment(1, 2, cookie=COOKIE, blocks=BLOCKS, data=(7, 8, 9, 10))
        words = pack(segment)
        for place in range(43, 47):
            for word in (256, 65535):
                self.check_place(with_word(words, place, word), place)
            self.assertEqual(unpack(with_word(words, place, 255)).data[place - 43], 255)
        # Two such bytes, the last place of a list that ends too early, a list that is too long.
        self.check_place(with_word(with_word(words, 46, 256), 44, 256), 44)
        self.check_place(summed(with_word(words, 44, 256)[:45]), 44)
        self.check_place(summed([*with_word(words, 44, 256), 1]), 44)
        self.check_place(summed([*words, 256]), 47)

    def test_bytes_are_looked_for_behind_the_counted_parts(self):
        for place in range(19, 43):
            words = with_word(pack(Segment(1, 2, cookie=COOKIE, blocks=BLOCKS, data=(7,))), place, 65535)
            self.assertEqual(pack(unpack(words)), words)

    def test_a_wrong_count_decides_before_the_bytes(self):
        words = pack(Segment(1, 2, data=(7, 8)))
        words[19] = 256
        for place, word in ((14, 2), (15, 4), (16, 1401)):
            self.check_place(with_word(words, place, word), place)


if __name__ == "__main__":
    unittest.main()
