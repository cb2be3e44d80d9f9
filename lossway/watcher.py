"""The watcher of the words at one station's wire."""

from lossway.errors import InvalidWords
from lossway.ring import Ring
from lossway.sightings import Sighting, broken_rule
from lossway.words import unpack

RULES = (
    "form", "mark", "dead", "ports", "tag", "first", "gap", "edge", "piece", "bytes", "finish", "ack", "back",
    "blocks",
)


def segment_of(words):
    """The segment that the words hold, or None."""
    try:
        segment = unpack(words)
    except InvalidWords:
        return None
    return segment


class Watcher:
    """A judge that sees only the words that arrive at a station and those that it sends."""

    def __init__(self, settings):
        self.blame = None
        self._ring = Ring(settings.size)
        self._piece = settings.piece
        self._least = settings.least
        self._openings = {}
        self._ends = {}
        self._number = 0

    def see_in(self, words):
        """See words that arrive."""
        segment = segment_of(words)
        if self.blame is not None or segment is None or "R" in segment.flags:
            return
        end = self._ends.get(segment.tag)
        is_known = end is not None and (end.source, end.target) == (segment.target, segment.source)
        if "S" in segment.flags:
            self._openings[segment.target, segment.source, segment.mark] = (segment.seq, segment.window, segment.piece)
            if "A" in segment.flags and is_known:
                end.acknowledge_opening(segment.ack)
        elif "A" in segment.flags and is_known and end.peer_mark == segment.mark:
            end.take(segment)

    def see_out(self, words):
        """See words that the station sends; return the first rule that they break, or None."""
        if self.blame is not None:
            return None
        rule = self._judge(words)
        if rule is not None:
            self.blame = (self._number, rule)
        self._number += 1
        return rule

    def _judge(self, words):
        """The first rule that the words break, or None; what keeps the rules is remembered."""
        segment = segment_of(words)
        if segment is None:
            return "form"
        if segment.flags == "R":
            return None
        end = self._ends.get(segment.mark)
        if end is None and "S" not in segment.flags:
            return "mark"
        if end is None:
            end = Sighting(self._ring, segment)
        if end.dead:
            return "dead"
        if (segment.source, segment.target) != (end.source, end.target):
            return "ports"
        if not self._has_right_tag(end, segment):
            return "tag"
        self._ends[segment.mark] = end
        return self._judge_known(end, segment)

    def _judge_known(self, end, segment):
        """The first rule behind "tag" that a segment of an end breaks, or None."""
        if "S" in segment.flags:
            return None if segment.seq == end.first and len(segment.data) == 0 else "first"
        if "R" in segment.flags:
            end.dead = True
            return None
        rule = broken_rule(end, segment)
        if rule is None:
            end.enter(segment)
        return rule

    def _has_right_tag(self, end, segment):
        """True if a segment names the peer of an end, which is learnt now if it was not known."""
        if segment.flags == "S":
            return segment.tag == 0
        if "S" in segment.flags and segment.flags != "SA" or "A" not in segment.flags:
            return False
        if end.peer_mark is None:
            self._learn_peer(end, segment)
        if end.peer_mark != segment.tag:
            return False
        return segment.flags != "SA" or segment.ack == self._ring.wrap(end.peer_first + 1)

    def _learn_peer(self, end, segment):
        """Let an end know the peer that its segment names, if that peer has sent an opening."""
        opening = self._openings.get((segment.source, segment.target, segment.tag))
        if opening is not None:
            first, window, piece = opening
            unit = min(self._piece, piece) if piece > 0 else self._least
            end.learn(segment.tag, first, unit, window)
