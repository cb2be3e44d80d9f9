"""The numbers of a connection on the wire, and the segments that it sends."""

from lossway.segments import Segment


def own_number(connection, offset):
    """The number of an offset of the own stream."""
    return connection.ring.wrap(connection.first + offset)


def peer_number(connection, offset):
    """The number of an offset of the peer's stream."""
    return connection.ring.wrap(connection.peer_first + offset)


def own_offset(connection, number):
    """The offset of the own stream that a received number means."""
    ring = connection.ring
    return ring.unwrap(ring.wrap(number - connection.first), connection.una)


def peer_offset(connection, number):
    """The offset of the peer's stream that a received number means."""
    ring = connection.ring
    return ring.unwrap(ring.wrap(number - connection.peer_first), connection.inbox.next_offset)


def told_step(connection):
    """The number of offsets by which the window must have grown to be told anew."""
    return min(connection.settings.piece, max(1, connection.inbox.limit // 2))


def is_window_news(connection):
    """True if the window has grown so much that the peer should learn of it at once."""
    inbox = connection.inbox
    grown = inbox.edge - connection.told_edge
    if grown >= min(2 * connection.settings.piece, max(1, inbox.limit // 2)):
        return True
    # A peer that was told an empty window waits for news.
    return connection.told_edge <= inbox.next_offset and grown >= told_step(connection)


def tell_window(connection):
    """Bring told_edge up to date and return the window that it means."""
    inbox = connection.inbox
    grown = inbox.edge - connection.told_edge
    if grown < 0 or grown >= told_step(connection):
        connection.told_edge = inbox.edge
    connection.told_edge = max(connection.told_edge, inbox.next_offset)
    return connection.told_edge - inbox.next_offset


def told_blocks(connection):
    """The stored runs behind the first gap, as the peer's numbers."""
    runs = connection.inbox.told_runs() if connection.settings.tell else []
    return [(peer_number(connection, low), peer_number(connection, high)) for low, high in runs]


def put_out(connection, low, flags, *, window, urgent=0, piece=0, cookie=(), blocks=(), data=()):
    """Send a segment whose first offset is low."""
    known = connection.peer_mark is not None
    connection.outgoing.append(Segment(
        connection.source, connection.target, tag=connection.peer_mark if known else 0, mark=connection.mark,
        flags=flags, seq=own_number(connection, low),
        ack=peer_number(connection, connection.inbox.expected) if "A" in flags else 0,
        window=window, urgent=urgent, piece=piece, cookie=cookie, blocks=blocks, data=data,
    ))
    if "A" in flags:
        connection.owed = 0
        connection.alarms.disarm("delay")


def send_opening(connection):
    """Send the offset 0."""
    flags = "S" if connection.state == "opening" else "SA"
    put_out(connection, 0, flags, window=tell_window(connection), piece=connection.settings.piece)


def send_offsets(connection, low, high):
    """Send the offsets from low, which is at least 1, to high - 1."""
    outbox = connection.outbox
    data = outbox.cut(low, min(high, outbox.end))
    urges = len(data) > 0 and outbox.urgent_end > low
    finishes = outbox.closed and high == outbox.end + 1
    flags = "A" + ("F" if finishes else "") + ("U" if urges else "")
    put_out(
        connection, low, flags, window=tell_window(connection), urgent=outbox.urgent_end - low if urges else 0,
        cookie=connection.cookie, blocks=told_blocks(connection), data=data,
    )


def send_empty(connection, offset):
    """Send a segment that takes no offset, but stands at one."""
    put_out(
        connection, offset, "A", window=tell_window(connection), cookie=connection.cookie,
        blocks=told_blocks(connection),
    )


def send_acknowledgement(connection):
    """Tell the peer what has arrived."""
    send_empty(connection, connection.top)


def send_poke(connection):
    """Send what makes the peer acknowledge again."""
    send_empty(connection, connection.una - 1)


def send_reset(connection):
    """Tell the peer, if it is known, that this connection is over."""
    if connection.peer_mark is not None:
        put_out(connection, connection.top, "AR", window=0)
