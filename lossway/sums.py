"""Check sums of words."""

from lossway.checks import is_sequence, is_word
from lossway.errors import InvalidWords

# As this is a prime above every word, a word that changes in any place changes the sum.
PRIME = 65537


def check_sum(words):
    """The sum of the words, each multiplied by its place counted from 1, modulo PRIME."""
    if not is_sequence(words):
        raise InvalidWords(0)
    total = 0
    for place, word in enumerate(words):
        if not is_word(word):
            raise InvalidWords(place)
        total += (place + 1) * word
    return total % PRIME
