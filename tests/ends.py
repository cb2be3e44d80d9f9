"""One end of a connection and the segments of its peer, for the tests of connections.

The first numbers lie so that the offsets of both streams soon wrap in a ring of 1024.
"""

from lossway.connection import Connection
from lossway.segments import Segment
from lossway.settings import Settings

SOURCE, TARGET = 40000, 80
MARK, PEER = 65537, 4294967295
FIRST, PEER_FIRST = 1020, 1015
SIZE = 1024

SCALARS = (
    "state", "reason", "source", "target", "mark", "first", "peer_mark", "peer_first", "una", "top", "recover",
    "peer_edge", "greatest", "update_seq", "update_ack", "told_edge", "owed", "attempts", "pokes", "unheard",
    "repeats", "timed_end", "timed_at", "trial_low", "trial_high", "period", "older", "newer", "rests", "cookie",
)


def own(offset, size=SIZE):
    return (FIRST + offset) % size


def peer(offset, size=SIZE):
    return (PEER_FIRST + offset) % size


def peer_segment(flags="A", **fields):
    """A segment of the peer, with its fields as they are on the wire."""
    fields = {"tag": MARK, "mark": PEER, "flags": flags, **fields}
    return Segment(TARGET, SOURCE, **fields)


def numbers(seq=1, ack=1, *, flags="A", window=64, data=(), blocks=(), size=SIZE, **fields):
    """A segment of the peer that stands at offsets."""
    blocks = [(own(low, size), own(high, size)) for low, high in blocks]
    return peer_segment(
        flags, seq=peer(seq, size), ack=own(ack, size), window=window, data=data, blocks=blocks, **fields,
    )


def call(window=64, piece=8, **fields):
    """The opening of the peer."""
    return peer_segment("S", **{"tag": 0, "seq": PEER_FIRST, "window": window, "piece": piece, **fields})


def answer(window=64, piece=8, size=SIZE, **fields):
    """The peer's answer to the own opening."""
    return peer_segment("SA", **{"seq": PEER_FIRST, "ack": own(1, size), "window": window, "piece": piece, **fields})


def opening(now=0, **choices):
    return Connection.opening(Settings(**choices), SOURCE, TARGET, mark=MARK, first=FIRST, now=now)


def answering(now=0, segment=None, **choices):
    segment = call() if segment is None else segment
    return Connection.answering(Settings(**choices), segment, mark=MARK, first=FIRST, now=now)


def resumed(now=0, window=64, told=8, **choices):
    cookie = (MARK, FIRST, 3, told, PEER, PEER_FIRST)
    segment = numbers(1, 1, window=window, cookie=cookie)
    return Connection.resumed(Settings(**choices), segment, now=now)


def opened(now=0, window=64, told=8, **choices):
    """A connection that is open, with nothing left to drain; the peer told the piece."""
    connection = opening(now, **choices)
    connection.deliver(answer(window, told, connection.settings.size), now)
    connection.drain()
    return connection


def look(connection):
    """All that this package names of a connection, as plain values."""
    found = {name: getattr(connection, name) for name in SCALARS}
    for name in ("sacked", "lost", "resent"):
        found[name] = getattr(connection, name).rows()
    for name in ("outbox", "inbox", "estimate", "control", "finder"):
        part = getattr(connection, name)
        found[name] = None if part is None else {key: str(value) for key, value in vars(part).items()}
    found["inbox"]["_ahead"] = connection.inbox.told_runs()
    found["alarms"] = {name: connection.alarms.when(name) for name in connection.alarms.due(10 ** 12)}
    found["settings"] = connection.settings.row()
    found["outgoing"] = len(connection.outgoing)
    return found


def news(before, after):
    """What has changed between two looks."""
    return {name: after[name] for name in after if before[name] != after[name]}


def shown(segments, size=SIZE):
    """Segments as (flags, offset, end of the offsets, ack) with the offsets of both streams."""
    rows = []
    for segment in segments:
        low = (segment.seq - FIRST) % size
        ack = (segment.ack - PEER_FIRST) % size if "A" in segment.flags else None
        rows.append((segment.flags, low, low + segment.extent, ack))
    return rows


def sent(connection):
    """What the connection sent since the last look at it, as shown."""
    return shown(connection.drain(), connection.settings.size)
