"""The judge of one station's trace."""

from lossway.events import outcome, require_events
from lossway.station import Station


def replay(settings, trace):
    """None if a station with these settings leaves the trace; else where it does not, what is due and what is told."""
    require_events(trace)
    station = Station(settings)
    lists = []
    for place, event in enumerate(trace):
        due = tuple(lists[0]) if lists else None
        found = tuple(event[1]) if event[0] == "out" else None
        if due != found:
            return place, due, found
        if found is None:
            _, lists = outcome(station, event)
        else:
            lists = lists[1:]
    return (len(trace), tuple(lists[0]), None) if lists else None
