"""The errors of the program.

No class here writes a message of its own: Python keeps the arguments of an error and shows them,
so any value can be told, also one that cannot be written as text.
"""


class LossError(ValueError):
    """The base class of all errors of the program."""


class InvalidNumber(LossError):
    """A value is not one of the numbers that may stand in its place."""

    def __init__(self, number):
        self.number = number


class InvalidSetting(LossError):
    """A choice has an invalid value, or there is no choice of this name."""

    def __init__(self, setting):
        self.setting = setting


class InvalidSegment(LossError):
    """A field of a segment is invalid, or there is no field of this name."""

    def __init__(self, part):
        self.part = part


class InvalidWords(LossError):
    """Words do not hold what they should, first at this place."""

    def __init__(self, place):
        self.place = place


class WrongSum(InvalidWords):
    """Words do not hold their own sum."""


class NotAllowed(LossError):
    """A call is not allowed in this state."""

    def __init__(self, state):
        self.state = state


class Broken(LossError):
    """A connection is gone, for this reason."""

    def __init__(self, reason):
        self.reason = reason


class NoConnection(LossError):
    """No connection of the user has this handle."""

    def __init__(self, handle):
        self.handle = handle


class NoListener(LossError):
    """No listener has this port."""

    def __init__(self, port):
        self.port = port


class PortTaken(LossError):
    """A port is in use already."""

    def __init__(self, port):
        self.port = port


class StationDown(LossError):
    """A station is down."""


class TooMany(LossError):
    """There would be more than this number."""

    def __init__(self, most):
        self.most = most


class InvalidFate(LossError):
    """A plan of the net has an invalid fate."""

    def __init__(self, side, place):
        self.side = side
        self.place = place


class InvalidTrace(LossError):
    """A trace or a menu has an invalid event at this place."""

    def __init__(self, place):
        self.place = place


class InvalidDeed(LossError):
    """A deed does not have the form of a deed."""

    def __init__(self, deed):
        self.deed = deed


class NothingLeft(LossError):
    """There is nothing to undo or to redo."""


class Stopped(LossError):
    """A row of deeds stopped at this place."""

    def __init__(self, place):
        self.place = place


class InvalidLine(LossError):
    """A line of a record is wrong."""

    def __init__(self, line):
        self.line = line
