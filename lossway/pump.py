"""The pump of a connection: what it sends by itself, lost offsets before new ones."""

from lossway.sending import send_offsets, send_opening


def pace_limit(connection):
    """The offset from which on no byte may be sent yet, so that numbers do not repeat too early."""
    return connection.older + connection.settings.size // 4


def end_measurement(connection):
    """Let no round trip be measured."""
    connection.timed_end = connection.timed_at = None


def fits(connection, count):
    """True if so many more offsets may be in flight; a lone segment always may."""
    flight = connection.flight
    return flight == 0 or flight + count <= connection.control.window


def pump(connection, now):
    """Send what the windows let through."""
    going = True
    while going and len(connection.lost) > 0:
        going = send_lost(connection)
    going = going and connection.state == "open"
    while going and connection.top < connection.outbox.bound:
        going = send_new(connection, now)


def send_lost(connection):
    """Send the begin of the first lost run; False if it has to wait."""
    low, high = connection.lost.rows()[0]
    if low == 0:
        send_opening(connection)
        connection.lost.drop(0, 1)
        end_measurement(connection)
        return True
    if connection.state != "open":
        return False
    end = end_of_lost(connection, low, high)
    if end == low or not fits(connection, end - low):
        return False
    send_offsets(connection, low, end)
    connection.lost.drop(low, end)
    connection.resent.put(low, end)
    end_measurement(connection)
    return True


def end_of_lost(connection, low, high):
    """The offset behind the next segment of a lost run, or low if the peer's window is shut."""
    outbox = connection.outbox
    end = max(low, min(high, outbox.end, low + connection.finder.size, connection.peer_edge))
    # The finish goes along with the last byte, and alone whatever the peer's window is.
    return end + 1 if end == outbox.end and high > end else end


def send_new(connection, now):
    """Send the next new offsets; False if they have to wait."""
    outbox = connection.outbox
    low = connection.top
    left = outbox.end - low
    room = max(0, min(connection.peer_edge, pace_limit(connection)) - low)
    tries = is_time_for_trial(connection, min(left, room))
    count = connection.finder.trial() if tries else min(connection.finder.size, left, room)
    if left > 0 and (count == 0 or is_held(connection, count, left)):
        return False
    finishes = outbox.closed and count == left
    high = low + count + 1 if finishes else low + count
    if not fits(connection, high - low):
        return False
    send_offsets(connection, low, high)
    if finishes and not connection.inbox.ended:
        connection.rests = True
    if connection.timed_end is None:
        connection.timed_end = high
        connection.timed_at = now
    if tries:
        connection.trial_low = low
        connection.trial_high = low + count
    connection.top = high
    return True


def is_time_for_trial(connection, most):
    """True if the next new bytes, of which at most so many may be sent, are a trial."""
    wanted = connection.finder.trial()
    return 0 < wanted <= most and connection.trial_low is None and connection.recover is None


def is_held(connection, count, left):
    """True if the next piece is small and had better wait for more bytes or for a wider window."""
    if count >= connection.finder.size or connection.una == connection.top:
        return False
    if count < left:
        return 2 * count < connection.greatest
    outbox = connection.outbox
    return connection.settings.join and not outbox.closed and outbox.urgent_end <= connection.top
