"""Fates: what happens to one list of words in the net."""

from lossway.checks import is_between, is_sequence
from lossway.errors import InvalidFate


def is_copy(value, life):
    """True for a delay, or for a delay with a place and a change."""
    if not is_sequence(value):
        return is_between(value, 1, life)
    return (
        len(value) == 3 and is_between(value[0], 1, life)
        and is_between(value[1], 0, 65535) and is_between(value[2], 1, 65535)
    )


def is_fate(value, life, copies):
    """True for a sequence of at most so many copies."""
    return is_sequence(value) and len(value) <= copies and all([is_copy(item, life) for item in value])


def require_fates(side, fates, life, copies):
    """Raise InvalidFate for the first fate that is not valid."""
    for place, fate in enumerate(fates):
        if not is_fate(fate, life, copies):
            raise InvalidFate(side, place)


def kept(fate):
    """A fate that later changes do not reach, in which each copy has a place and a change."""
    return tuple([tuple(item) if is_sequence(item) else (item, 0, 0) for item in fate])


def bent(words, place, change):
    """The words with one of them changed; with the change 0 they stay as they are."""
    copied = list(words)
    copied[place % len(copied)] = (copied[place % len(copied)] + change) % 65536
    return copied
