"""What a connection learns from the acknowledgement in a segment."""

from lossway.pump import end_measurement
from lossway.sending import own_offset
from lossway.spans import Spans

# So many empty segments in a row that repeat an acknowledgement tell of a loss.
MANY_REPEATS = 3
MOST_NEW_BYTES = 65535


def read_answer(connection, segment, ack, seq, now):
    """Read the acknowledgement of a segment that stands at these offsets."""
    if connection.state == "answering":
        connection.state = "open"
    una = connection.una
    edge = connection.peer_edge
    read_window(connection, segment.window, ack, seq)
    acknowledge(connection, ack, now)
    read_blocks(connection, segment.blocks)
    pass_trial(connection)
    suspects = sacked_suspects(connection)
    if connection.una > una:
        suspects = suspects | progress_suspects(connection, una, now)
    elif ack == una and segment.extent == 0 and connection.peer_edge == edge:
        suspects = suspects | repeat_suspects(connection)
    find_lost(connection, suspects, now)


def read_window(connection, window, ack, seq):
    """Take the peer's window, unless a later segment has told it already."""
    newer = seq > connection.update_seq or seq == connection.update_seq and ack >= connection.update_ack
    if ack < connection.una or not newer:
        return
    connection.peer_edge = ack + window
    connection.update_seq = seq
    connection.update_ack = ack
    connection.greatest = max(connection.greatest, window)
    if connection.peer_edge <= connection.una:
        connection.attempts = 0


def acknowledge(connection, ack, now):
    """Let the peer have acknowledged all offsets below ack."""
    if ack <= connection.una:
        return
    if connection.timed_end is not None and ack >= connection.timed_end:
        ticks = now - connection.timed_at
        connection.estimate.sample(ticks)
        connection.control.on_sample(ticks)
        end_measurement(connection)
    connection.una = ack
    connection.outbox.release(min(ack, connection.outbox.end))
    for spans in (connection.sacked, connection.lost, connection.resent):
        spans.drop(0, ack)
    connection.attempts = connection.repeats = 0
    connection.alarms.disarm("resend")
    if connection.recover is not None and ack >= connection.recover:
        connection.recover = None


def read_blocks(connection, blocks):
    """Take the runs that the peer has stored behind a gap."""
    for one, other in blocks:
        low = own_offset(connection, one)
        high = own_offset(connection, other)
        if connection.una <= low < high <= connection.top:
            connection.sacked.put(low, high)
            connection.lost.drop(low, high)


def pass_trial(connection):
    """End the trial if all of its bytes have arrived."""
    if connection.trial_high is not None and connection.una >= connection.trial_high:
        connection.finder.passed(connection.trial_high - connection.trial_low)
        end_trial(connection)


def fail_trial(connection):
    """End the trial, if one runs, as one that was lost."""
    if connection.trial_high is not None:
        connection.finder.failed(connection.trial_high - connection.trial_low)
        end_trial(connection)


def end_trial(connection):
    """Let no trial run."""
    connection.trial_low = connection.trial_high = None


def front(connection):
    """The offsets of the first piece that is not acknowledged."""
    una = connection.una
    return Spans((una, min(una + connection.finder.size, connection.top)))


def progress_suspects(connection, una, now):
    """What is suspect after una has moved from here; outside of a recovery the control is told instead."""
    if connection.recover is not None:
        return front(connection)
    # The opening is no byte.
    count = connection.una - max(una, 1)
    if count > 0:
        connection.control.on_ack(min(count, MOST_NEW_BYTES), connection.flight, now)
    return Spans()


def repeat_suspects(connection):
    """What is suspect after an acknowledgement was repeated."""
    if connection.una == connection.top:
        return Spans()
    connection.repeats += 1
    return front(connection) if connection.repeats == MANY_REPEATS else Spans()


def sacked_suspects(connection):
    """What is suspect because the peer has stored three pieces behind it."""
    highest = connection.sacked.highest(3 * connection.finder.size)
    if connection.una == connection.top or highest is None:
        return Spans()
    return Spans((connection.una, highest))


def find_lost(connection, suspects, now):
    """Take the suspects as lost that were neither stored nor found lost before."""
    found = suspects - connection.sacked - connection.lost - connection.resent
    if len(found) == 0:
        return
    if connection.recover is None:
        connection.control.on_loss(connection.flight, now)
        connection.recover = connection.top
    connection.lost = connection.lost | found
    if connection.trial_high is not None and len(found & Spans((connection.trial_low, connection.trial_high))) > 0:
        fail_trial(connection)
