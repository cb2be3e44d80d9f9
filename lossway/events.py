"""Events: what happens at a station, in the form in which it is told."""

from lossway.calls import call_station, is_call
from lossway.checks import is_sequence, is_word
from lossway.errors import InvalidTrace, LossError


def frozen(value):
    """The value in which all sequences are tuples, at every depth."""
    if not is_sequence(value):
        return value
    return tuple([frozen(item) for item in value])


def ordered_options(pairs):
    """Pairs of a name and a value, in ascending order of the names."""
    return frozen(sorted(pairs, key=lambda pair: pair[0]))


def is_words(value):
    """True for a sequence of words."""
    return is_sequence(value) and all([is_word(word) for word in value])


def is_option(value):
    """True for a pair of a name and a value."""
    return is_sequence(value) and len(value) == 2 and isinstance(value[0], str)


def is_options(value):
    """True for a sequence of options without two equal names."""
    if not is_sequence(value) or not all([is_option(pair) for pair in value]):
        return False
    return len(set([pair[0] for pair in value])) == len(value)


def is_told_call(name, values, options):
    """True if this has the form of a call, be there such a call or not."""
    return isinstance(name, str) and is_sequence(values) and is_options(options)


def is_event(value):
    """True for an event of a trace."""
    if not is_sequence(value) or len(value) == 0 or not isinstance(value[0], str):
        return False
    kind, *rest = value
    if kind == "tick":
        return len(rest) == 0
    if kind in ("in", "out"):
        return len(rest) == 1 and is_words(rest[0])
    if kind != "call" or len(rest) != 3:
        return False
    name, values, options = rest
    return is_told_call(name, values, options) and is_call(name, values, [option for option, _ in options])


def require_events(values):
    """Raise InvalidTrace unless this is a sequence of events, with the place of the first other value."""
    if not is_sequence(values):
        raise InvalidTrace(0)
    for place, value in enumerate(values):
        if not is_event(value):
            raise InvalidTrace(place)


def happen(station, event):
    """Let a tick, an arrival or a call happen at a station."""
    if event[0] == "tick":
        station.advance()
    elif event[0] == "in":
        station.deliver(event[1])
    else:
        _, name, values, options = event
        call_station(station, name, values, dict(options))


def outcome(station, event):
    """Let an event happen; return True if it raised an error of the program, and the lists that were sent then."""
    refused = False
    try:
        happen(station, event)
    except LossError:
        refused = True
    return refused, station.drain()
