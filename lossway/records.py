"""Records: the text of a desk, and the board of a world."""

from lossway.desk import Desk
from lossway.errors import InvalidDeed, InvalidLine, LossError
from lossway.lines import deed_line, deed_of, net_line, net_of, settings_line, settings_of

TITLE = "lossway 1"
NET_LINE = 4


def write_record(desk):
    """The text from which read_record makes the desk again."""
    lines = [
        TITLE, settings_line("first", desk.first), settings_line("second", desk.second), net_line(desk),
        *[deed_line(deed) for deed in desk.deeds()],
    ]
    return "".join([line + "\n" for line in lines])


def read_record(text):
    """The desk whose record the text is; raises InvalidLine for the first line that is wrong."""
    if not isinstance(text, str):
        raise InvalidLine(0)
    # Behind the last newline stands nothing, or a line that lacks its own.
    lines = text.split("\n")
    require_line(1, line_at(lines, 1), TITLE)
    first = read_settings(lines, 2, "first")
    second = read_settings(lines, 3, "second")
    desk = read_net(lines, first, second)
    for number in range(NET_LINE + 1, len(lines)):
        read_deed(lines, number, desk)
    if lines[-1] != "":
        raise InvalidLine(len(lines))
    return desk


def line_at(lines, number):
    """The line of this number; raises InvalidLine if there is none, or none with its newline."""
    if number >= len(lines):
        raise InvalidLine(number)
    return lines[number - 1]


def require_line(number, line, wanted):
    """Raise InvalidLine unless the line is written as it should be."""
    if line != wanted:
        raise InvalidLine(number)


def read_settings(lines, number, word):
    """The settings that a line tells."""
    line = line_at(lines, number)
    words = line.split(" ")
    require_line(number, words[0], word)
    try:
        settings = settings_of(words[1:])
    except LossError as e:
        raise InvalidLine(number) from e
    require_line(number, line, settings_line(word, settings))
    return settings


def read_net(lines, first, second):
    """The desk with these settings and the net that its line tells."""
    line = line_at(lines, NET_LINE)
    copies, girth = net_of(line.split(" ")[1:])
    try:
        desk = Desk(first, second, copies=copies, girth=girth)
    except LossError as e:
        raise InvalidLine(NET_LINE) from e
    require_line(NET_LINE, line, net_line(desk))
    return desk


def read_deed(lines, number, desk):
    """Do the deed that a line tells."""
    line = line_at(lines, number)
    deed = deed_of(line.split(" "))
    if deed is None or not tells(line, deed):
        raise InvalidLine(number)
    try:
        desk.do(deed)
    except LossError as e:
        raise InvalidLine(number) from e


def tells(line, deed):
    """True if the deed is written as this line."""
    try:
        wanted = deed_line(deed)
    except InvalidDeed:
        return False
    return line == wanted


def board(world):
    """A line for each connection that a user has, those of station 0 first."""
    lines = []
    for side, station in enumerate(world.stations):
        handles = [] if station.down else station.handles()
        lines.extend([board_line(side, handle, station.connection(handle)) for handle in handles])
    return lines


def board_line(side, handle, end):
    """The line of one end of a connection."""
    reason = "-" if end.reason == "" else end.reason
    ports = f"{end.source:>5}>{end.target:<5}"
    offsets = f"{end.una:>8} {end.top:>8} {end.inbox.next_offset:>8}"
    return f"{side} {handle:>4} {end.state:<9} {ports} {offsets} {reason}"
