"""The kinds of values that every module asks for."""

from lossway.errors import InvalidNumber, InvalidSetting


def is_integer(value):
    """True for an integer; True and False are none."""
    return isinstance(value, int) and not isinstance(value, bool)


def is_between(value, low, high):
    """True for an integer from low to high, inclusive."""
    return is_integer(value) and low <= value <= high


def is_at_least(value, low):
    """True for an integer of at least low."""
    return is_integer(value) and low <= value


def is_byte(value):
    """True for an integer from 0 to 255."""
    return is_between(value, 0, 255)


def is_port(value):
    """True for an integer from 1 to 65535."""
    return is_between(value, 1, 65535)


def is_word(value):
    """True for an integer that one word holds."""
    return is_between(value, 0, 65535)


def is_long(value):
    """True for an integer that two words hold."""
    return is_between(value, 0, 4294967295)


def is_sequence(value):
    """True for a list or a tuple."""
    return isinstance(value, (list, tuple))


def require_data(data):
    """Raise InvalidNumber with the first item that is not a byte, or with what is no sequence."""
    if not is_sequence(data):
        raise InvalidNumber(data)
    for item in data:
        if not is_byte(item):
            raise InvalidNumber(item)


def require_limit(limit):
    """Raise InvalidSetting unless a buffer may have this limit."""
    if not is_between(limit, 1, 65535):
        raise InvalidSetting("limit")
