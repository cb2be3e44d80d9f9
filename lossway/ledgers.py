"""The judge of a world's ledger."""


def unsound(ledger):
    """None if each row read what its peer wrote; else the index of the first other row, and the rule that it breaks."""
    writers = first_writers(ledger)
    marks = {}
    peers = {}
    for index, (side, mark, peer_mark, _, read) in enumerate(ledger):
        if (side, mark) in marks:
            return index, "mark"
        marks[side, mark] = True
        if len(read) == 0:
            continue
        if (side, peer_mark) in peers:
            return index, "peer"
        peers[side, peer_mark] = True
        written = writers.get((1 - side, peer_mark, mark))
        if written is None:
            return index, "pair"
        if tuple(read) != written[:len(read)]:
            return index, "prefix"
    return None


def is_sound(ledger):
    """True if each row read what its peer wrote."""
    return unsound(ledger) is None


def first_writers(ledger):
    """What the first row of a side, a mark and a peer's mark wrote."""
    writers = {}
    for side, mark, peer_mark, written, _ in ledger:
        if (side, mark, peer_mark) not in writers:
            writers[side, mark, peer_mark] = tuple(written)
    return writers
