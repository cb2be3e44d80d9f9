"""Standings: all that decides what a station will do and say, as plain tuples.

Times stand in them as their distances from now, so that a station may come to the same standing again.
"""

from lossway.alarms import ALARMS
from lossway.curves import Curve, Delay


def distance(when, now):
    """How long ago a time was; None if there is no time."""
    return None if when is None else now - when


def station_time(settings, now):
    """What counts of the time itself: first numbers and periods depend on it."""
    return now % (settings.size * (settings.life + 1))


def end_standing(end, now):
    """The standing of one end of a connection."""
    if end.state == "gone":
        return (end.state, end.reason, inbox_standing(end.inbox))
    return (
        end.state, end.source, end.target, end.mark, end.first, end.peer_mark, end.peer_first, end.cookie,
        *stream_standing(end, now), end.peer_edge, end.greatest, end.update_seq, end.update_ack, end.told_edge,
        end.owed, outbox_standing(end.outbox), inbox_standing(end.inbox), estimate_standing(end.estimate),
        alarms_standing(end.alarms, now), control_standing(end.control, now), finder_standing(end.finder),
    )


def stream_standing(end, now):
    """What one end knows of its own stream."""
    return (
        end.una, end.top, tuple(end.sacked.rows()), tuple(end.lost.rows()), tuple(end.resent.rows()), end.recover,
        end.attempts, end.pokes, end.unheard, end.repeats, end.timed_end, distance(end.timed_at, now),
        end.trial_low, end.trial_high, end.period - now // (end.settings.life + 1), end.older, end.newer, end.rests,
    )


def outbox_standing(outbox):
    """The standing of a sending buffer."""
    kept = outbox.cut(outbox.base, outbox.end)
    return (outbox.base, outbox.end, outbox.closed, outbox.urgent_end, outbox.limit, kept)


def inbox_standing(inbox):
    """The standing of a receiving buffer."""
    return (
        inbox.next_offset, inbox.read_offset, inbox.final, inbox.urgent_end, inbox.limit,
        tuple(inbox.stored()), tuple(inbox.told_runs()),
    )


def estimate_standing(estimate):
    """The standing of a round-trip estimate."""
    return (estimate.smooth, estimate.spread, estimate.samples)


def alarms_standing(alarms, now):
    """How long ago each of the alarms was due."""
    return tuple([distance(alarms.when(name), now) for name in ALARMS])


def control_standing(control, now):
    """The standing of a congestion window; None if there is none."""
    if control is None:
        return None
    common = (control.KIND, control.unit, control.window, control.threshold, control.credit, control.stalled)
    if isinstance(control, Curve):
        return (*common, control.peak, control.span, distance(control.born, now))
    if isinstance(control, Delay):
        return (*common, control.least, control.latest, control.samples)
    return common


def finder_standing(finder):
    """The standing of the search for the greatest piece; None if there is none."""
    return None if finder is None else (finder.size, finder.ceiling, finder.strikes)


def listener_standing(port, listener):
    """The standing of the listener of a port."""
    return (port, listener.backlog, tuple(listener.waiting), tuple(listener.readied))
