"""Segments as lists of words."""

from lossway.errors import InvalidWords, WrongSum
from lossway.segments import COOKIE_NUMBERS, LETTERS, MOST_BLOCKS, MOST_BYTES, Segment
from lossway.sums import PRIME, check_sum

FLAGS = 6
COOKIE_WORDS = 14
BLOCKS = 15
BYTES = 16
SUM = 17
HEADER = 19


def two_words(number):
    """The high and the low word of a number."""
    return divmod(number, 65536)


def number_at(words, place):
    """The number whose two words begin at the place."""
    return words[place] * 65536 + words[place + 1]


def flags_word(flags):
    """The flags as one word, with a bit for each letter."""
    return sum([1 << bit for bit, letter in enumerate(LETTERS) if letter in flags])


def flags_of(word):
    """The flags that one word holds."""
    return "".join([letter for bit, letter in enumerate(LETTERS) if word >> bit & 1])


def pack(segment):
    """The words of a segment."""
    words = [
        segment.source, segment.target, *two_words(segment.tag), *two_words(segment.mark),
        flags_word(segment.flags), *two_words(segment.seq), *two_words(segment.ack),
        segment.window, segment.urgent, segment.piece,
        2 * len(segment.cookie), len(segment.blocks), len(segment.data), 0, 0,
    ]
    for number in segment.cookie:
        words.extend(two_words(number))
    for low, high in segment.blocks:
        words.extend(two_words(low))
        words.extend(two_words(high))
    words.extend(segment.data)
    words[SUM:HEADER] = two_words(check_sum(words))
    return words


def unpack(words):
    """The segment that packs to these words."""
    total = check_sum(words)
    if len(words) < HEADER:
        raise InvalidWords(len(words))
    # The sum was taken with 0 in its own two places, so what they add is taken away again.
    own = (SUM + 1) * words[SUM] + (SUM + 2) * words[SUM + 1]
    if number_at(words, SUM) != (total - own) % PRIME:
        raise WrongSum(SUM)
    place = wrong_place(words)
    if place is not None:
        raise InvalidWords(place)
    return segment_of(words)


def wrong_place(words):
    """The least place that is wrong, or None."""
    place = wrong_header(words)
    # Where the parts behind the header begin and end is known only if the header is right.
    return wrong_rest(words) if place is None else place


def wrong_header(words):
    """The least place of the header that is wrong, or None."""
    for port in (0, 1):
        if words[port] == 0:
            return port
    if words[FLAGS] >= 1 << len(LETTERS):
        return FLAGS
    if words[COOKIE_WORDS] not in (0, 2 * COOKIE_NUMBERS):
        return COOKIE_WORDS
    if words[BLOCKS] > MOST_BLOCKS:
        return BLOCKS
    if words[BYTES] > MOST_BYTES:
        return BYTES
    return None


def wrong_rest(words):
    """The least wrong place behind a right header, or None."""
    first_byte = first_block_of(words) + 4 * words[BLOCKS]
    end = first_byte + words[BYTES]
    for place in range(first_byte, min(end, len(words))):
        if words[place] > 255:
            return place
    if len(words) != end:
        return min(len(words), end)
    return None


def first_block_of(words):
    """The place behind the cookie."""
    return HEADER + words[COOKIE_WORDS]


def segment_of(words):
    """The segment of words that have no wrong place."""
    first_block = first_block_of(words)
    first_byte = first_block + 4 * words[BLOCKS]
    cookie = [number_at(words, place) for place in range(HEADER, first_block, 2)]
    lows = range(first_block, first_byte, 4)
    blocks = [(number_at(words, place), number_at(words, place + 2)) for place in lows]
    return Segment(
        words[0], words[1], tag=number_at(words, 2), mark=number_at(words, 4), flags=flags_of(words[FLAGS]),
        seq=number_at(words, 7), ack=number_at(words, 9), window=words[11], urgent=words[12], piece=words[13],
        cookie=cookie, blocks=blocks, data=words[first_byte:],
    )
