"""lossway.sums: promise 9."""

import unittest

from lossway.errors import InvalidWords
from lossway.sums import PRIME, check_sum
from tests.values import NOT_INTEGERS, NOT_SEQUENCES, caught


class SumsTest(unittest.TestCase):
    def test_example(self):
        self.assertEqual(check_sum([5, 7, 9]), 46)

    def test_prime(self):
        self.assertEqual(PRIME, 65537)

    def test_empty(self):
        self.assertEqual([check_sum([]), check_sum(())], [0, 0])

    def test_lists_and_tuples(self):
        self.assertEqual(check_sum((0, 1, 65535)), (2 + 3 * 65535) % 65537)
        self.assertEqual(check_sum([0, 1, 65535]), (2 + 3 * 65535) % 65537)

    def test_modulo(self):
        self.assertEqual(check_sum([65535]), 65535)
        self.assertEqual(check_sum([65534, 1]), 65536)
        self.assertEqual(check_sum([65535, 1]), 0)
        self.assertEqual(check_sum([1] * 65535), 65535 * 65536 // 2 % 65537)

    def test_one_changed_word(self):
        for words in ([0], [65535], [7, 0, 65535, 12], list(range(40))):
            for place, word in enumerate(words):
                for other in (0, 1, 2, 255, 256, 32768, 65534, 65535):
                    changed = [*words[:place], other, *words[place + 1:]]
                    self.assertEqual(check_sum(changed) == check_sum(words), other == word)

    def test_two_exchanged_words(self):
        words = [7, 0, 65535, 12, 0, 1, 65534, 7]
        for one in range(len(words)):
            for two in range(one):
                swapped = list(words)
                swapped[one], swapped[two] = words[two], words[one]
                self.assertEqual(check_sum(swapped) == check_sum(words), words[one] == words[two])

    def test_far_places_of_a_long_sequence(self):
        words = [0] * 65535
        total = check_sum(words)
        for place in (0, 32767, 65534):
            for word in (1, 65535):
                self.assertNotEqual(check_sum([*words[:place], word, *words[place + 1:]]), total)
        self.assertNotEqual(check_sum([65535, *words[1:]]), check_sum([*words[1:], 65535]))

    def test_the_first_item_that_is_not_a_word_decides(self):
        for wrong in (-1, 65536, 10 ** 12, *NOT_INTEGERS):
            self.assertEqual(caught(InvalidWords, check_sum, [wrong]), {"place": 0})
            self.assertEqual(caught(InvalidWords, check_sum, (0, 65535, wrong, -1)), {"place": 2})

    def test_what_is_no_sequence_has_place_0(self):
        for value in NOT_SEQUENCES:
            self.assertEqual(caught(InvalidWords, check_sum, value), {"place": 0})

    def test_the_list_is_not_changed(self):
        words = [5, 7, 9]
        check_sum(words)
        self.assertEqual(words, [5, 7, 9])


if __name__ == "__main__":
    unittest.main()
