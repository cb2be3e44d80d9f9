"""Values of other kinds, for the tests of wrong inputs."""

from fractions import Fraction

# None of these is an integer, a sequence or a string.
OTHERS = (None, True, False, 1.0, Fraction(5), b"\x05", {}, {1: 2}, {5}, frozenset(), object(), iter([]), range(6), int)
NOT_INTEGERS = OTHERS + ("", "5", "S", [], [5], (), (5, 6))
NOT_SEQUENCES = OTHERS + (0, 5, -1, "", "123456")
NOT_STRINGS = OTHERS + (0, 5, [], ["S"], (), ("S",))


class Same:
    """A value that claims to equal every other one."""

    def __eq__(self, other):
        return True

    def __hash__(self):
        return hash("climb")


def caught(error, call, *values, **options):
    """The attributes of the error that the call raises, which is of exactly this class."""
    try:
        call(*values, **options)
    except error as found:
        if found.__class__ is not error:
            raise AssertionError(f"{found.__class__} instead of {error}")
        return vars(found)
    raise AssertionError(f"no {error} from {call} with {values!r} {options!r}")
