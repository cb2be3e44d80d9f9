"""Deeds: what leads a world step by step."""

from lossway.checks import is_between, is_sequence
from lossway.errors import InvalidDeed
from lossway.events import frozen, is_told_call, ordered_options

MOST_TICKS = 1000


def kept_deed(deed):
    """A deed that later changes do not reach, with its options in order; raises InvalidDeed for other values."""
    if not is_sequence(deed) or len(deed) == 0 or not isinstance(deed[0], str):
        raise InvalidDeed(deed)
    kind, *rest = deed
    if kind == "tick" and len(rest) == 1 and is_between(rest[0], 0, MOST_TICKS):
        return frozen(deed)
    if kind == "fate" and len(rest) == 2:
        return frozen(deed)
    if kind == "call" and len(rest) == 4:
        side, name, values, options = rest
        if is_told_call(name, values, options):
            return (kind, frozen(side), name, frozen(values), ordered_options(options))
    raise InvalidDeed(deed)


def do_deed(world, deed):
    """Do a deed in a world and return the result of the world's method."""
    if deed[0] == "tick":
        return world.advance(deed[1])
    if deed[0] == "fate":
        return world.net.add_fate(deed[1], deed[2])
    _, side, name, values, options = deed
    return world.make_call(side, name, values, dict(options))
