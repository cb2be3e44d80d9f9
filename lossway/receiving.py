"""What a connection does with a segment that it accepts."""

from lossway.answers import acknowledge, read_answer
from lossway.curves import control_of
from lossway.errors import InvalidNumber
from lossway.finder import Finder
from lossway.sending import own_number, own_offset, peer_offset
from lossway.settling import arm_rest, end_connection


def know_peer(connection, mark, first, piece, window):
    """Let the peer be known by what it told of itself."""
    settings = connection.settings
    unit = min(settings.piece, piece) if piece > 0 else settings.least
    connection.peer_mark = mark
    connection.peer_first = first
    connection.peer_edge = 1 + window
    connection.greatest = window
    connection.update_seq = 0
    connection.update_ack = 1
    connection.control = control_of(settings.control, unit)
    connection.finder = Finder(min(settings.least, unit) if settings.seek else unit, unit)


def know_opener(connection, segment):
    """Let the peer be known by its opening segment."""
    know_peer(connection, segment.mark, segment.seq, segment.piece, segment.window)


def receive(connection, segment, now):
    """Do what a segment asks for."""
    if "R" in segment.flags:
        end_connection(connection, "done" if connection.state == "resting" else "reset")
    elif connection.state == "opening":
        receive_first(connection, segment, now)
    elif "S" in segment.flags:
        receive_opening(connection, segment, now)
    elif "A" in segment.flags:
        receive_numbers(connection, segment, now)


def receive_first(connection, segment, now):
    """Take the opening of a peer that was unknown."""
    know_opener(connection, segment)
    if segment.flags == "SA":
        be_opened(connection, now)
        connection.cookie = segment.cookie
    else:
        connection.state = "answering"
        connection.lost.put(0, 1)


def be_opened(connection, now):
    """Let the own opening be acknowledged by an opening."""
    acknowledge(connection, 1, now)
    connection.state = "open"
    connection.owed = 2


def receive_opening(connection, segment, now):
    """Take an opening of a peer that is known."""
    if connection.state == "answering":
        if "A" in segment.flags and segment.ack == own_number(connection, 1):
            be_opened(connection, now)
        else:
            connection.lost.put(0, 1)
        return
    connection.owed = 2
    arm_rest(connection, now)


def receive_numbers(connection, segment, now):
    """Take a segment that acknowledges and may bring bytes."""
    ack = own_offset(connection, segment.ack)
    seq = peer_offset(connection, segment.seq)
    if connection.state == "answering":
        if ack != 1 or seq < 0:
            return
    else:
        connection.cookie = ()
        if ack > connection.top or seq < 0:
            connection.owed = 2
            return
    read_answer(connection, segment, ack, seq, now)
    if len(segment.data) > 0 or "F" in segment.flags:
        take_bytes(connection, segment, seq)
    elif seq < connection.inbox.expected:
        connection.owed = 2
    if connection.owed == 2:
        arm_rest(connection, now)


def take_bytes(connection, segment, seq):
    """Take the bytes and the finish of a segment into the inbox."""
    inbox = connection.inbox
    before = inbox.next_offset
    end = seq + len(segment.data)
    if "U" in segment.flags:
        inbox.mark_urgent(seq + segment.urgent)
    stored = inbox.take(seq, segment.data)
    if "F" in segment.flags:
        try:
            inbox.finish(end)
        except InvalidNumber:
            # Only a peer that breaks the rules ends its stream before bytes that it sent.
            pass
    in_order = stored > 0 and seq <= before and inbox.next_offset == end and len(inbox.told_runs()) == 0
    if in_order and "F" not in segment.flags and connection.owed == 0:
        connection.owed = 1
    else:
        connection.owed = 2
