"""Segments: what the stations send each other."""

from lossway.checks import is_byte, is_long, is_port, is_sequence, is_word
from lossway.errors import InvalidSegment

FIELDS = (
    "source", "target", "tag", "mark", "flags", "seq", "ack",
    "window", "urgent", "piece", "cookie", "blocks", "data",
)
LETTERS = "SAFRU"
COOKIE_NUMBERS = 6
MOST_BLOCKS = 3
MOST_BYTES = 1400


def is_flags(value):
    """True for letters of LETTERS, each at most once, in their order."""
    return isinstance(value, str) and value == "".join([letter for letter in LETTERS if letter in value])


def is_cookie(value):
    """True for a sequence of no number or of all the numbers of a cookie."""
    return is_sequence(value) and len(value) in (0, COOKIE_NUMBERS) and all([is_long(number) for number in value])


def is_block(value):
    """True for a pair of numbers."""
    return is_sequence(value) and len(value) == 2 and is_long(value[0]) and is_long(value[1])


def is_blocks(value):
    """True for a sequence of so many blocks as a segment carries."""
    return is_sequence(value) and len(value) <= MOST_BLOCKS and all([is_block(block) for block in value])


def is_cargo(value):
    """True for data of so many bytes as a segment carries."""
    return is_sequence(value) and len(value) <= MOST_BYTES and all([is_byte(item) for item in value])


def is_field(name, value):
    """True if the field of this name may have the value."""
    if name in ("source", "target"):
        return is_port(value)
    if name == "flags":
        return is_flags(value)
    if name in ("window", "urgent", "piece"):
        return is_word(value)
    if name == "cookie":
        return is_cookie(value)
    if name == "blocks":
        return is_blocks(value)
    if name == "data":
        return is_cargo(value)
    return is_long(value)


def heading(segment):
    """The begin of a segment's line: its ports and its flags."""
    return f"{segment.source:>5}>{segment.target:<5} {segment.flags:<5}"


class Segment:
    """One segment; its thirteen fields are its attributes."""

    def __init__(self, source, target, *, tag=0, mark=0, flags="", seq=0, ack=0,
                 window=0, urgent=0, piece=0, cookie=(), blocks=(), data=()):
        row = (source, target, tag, mark, flags, seq, ack, window, urgent, piece, cookie, blocks, data)
        for name, value in zip(FIELDS, row):
            if not is_field(name, value):
                raise InvalidSegment(name)
        self.source = source
        self.target = target
        self.tag = tag
        self.mark = mark
        self.flags = flags
        self.seq = seq
        self.ack = ack
        self.window = window
        self.urgent = urgent
        self.piece = piece
        self.cookie = tuple(cookie)
        self.blocks = tuple([tuple(block) for block in blocks])
        self.data = tuple(data)

    @staticmethod
    def of_row(row):
        """The segment with the fields of a row, in their order."""
        if not is_sequence(row) or len(row) != len(FIELDS):
            raise InvalidSegment("row")
        source, target, *rest = row
        choices = dict(zip(FIELDS[2:], rest))
        return Segment(source, target, **choices)

    @property
    def extent(self):
        """The number of offsets that the segment takes."""
        return len(self.data) + self.flags.count("S") + self.flags.count("F")

    def row(self):
        """The fields in their order."""
        return (
            self.source, self.target, self.tag, self.mark, self.flags, self.seq, self.ack,
            self.window, self.urgent, self.piece, self.cookie, self.blocks, self.data,
        )

    def changed(self, **fields):
        """Another segment in which the named fields are replaced."""
        for name in fields:
            if name not in FIELDS:
                raise InvalidSegment(name)
        row = [fields.get(name, value) for name, value in zip(FIELDS, self.row())]
        return Segment.of_row(row)

    def __eq__(self, other):
        return isinstance(other, Segment) and self.row() == other.row()

    def __str__(self):
        return f"{heading(self)} seq {self.seq:>10} ack {self.ack:>10} win {self.window:>5} len {len(self.data):>4}"
