"""Cookies: what a listener with a full backlog tells its peer instead of keeping it."""

from lossway.ring import Ring
from lossway.segments import Segment

MARKS = 65536


def mark_of(era, used):
    """The mark that an era gives as its next one after so many others."""
    return era * MARKS + used


def first_of(settings, now, mark):
    """The first number that belongs to a new mark."""
    return (7 * now + 31 * mark) % settings.size


def cookie_segment(settings, segment, mark, first, now):
    """The answer to an opening of which nothing is kept."""
    return Segment(
        segment.target, segment.source, tag=segment.mark, mark=mark, flags="SA", seq=first,
        ack=Ring(settings.size).wrap(segment.seq + 1), window=settings.inbox, piece=settings.piece,
        cookie=(mark, first, now, segment.piece, segment.mark, segment.seq),
    )


def is_own_cookie(segment, settings, era, used, now):
    """True if the segment brings back a cookie of this era that is still fresh."""
    if len(segment.cookie) == 0 or "A" not in segment.flags:
        return False
    mark, first, born, _, peer_mark, peer_first = segment.cookie
    ring = Ring(settings.size)
    return (
        mark == segment.tag and peer_mark == segment.mark and first in ring and peer_first in ring
        and mark_of(era, 1) <= mark <= mark_of(era, used) and born <= now <= born + settings.fresh
    )
