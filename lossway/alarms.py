"""The alarms of a connection."""

from lossway.checks import is_at_least
from lossway.errors import InvalidNumber, InvalidSetting

ALARMS = ("resend", "probe", "delay", "pace", "alive", "rest")


def is_alarm(name):
    """True for the name of an alarm."""
    return isinstance(name, str) and name in ALARMS


def require_alarm(name):
    """Raise InvalidSetting unless this is the name of an alarm."""
    if not is_alarm(name):
        raise InvalidSetting(name)


class Alarms:
    """At most one time for each of the alarms."""

    def __init__(self):
        self._times = {}

    def __contains__(self, name):
        return is_alarm(name) and name in self._times

    def __len__(self):
        return len(self._times)

    def arm(self, name, when):
        """Set or replace the time of an alarm."""
        require_alarm(name)
        if not is_at_least(when, 0):
            raise InvalidNumber(when)
        self._times[name] = when

    def disarm(self, name):
        """Remove the time of an alarm, if it is set."""
        require_alarm(name)
        self._times.pop(name, None)

    def when(self, name):
        """The time of an alarm, or None."""
        require_alarm(name)
        return self._times.get(name)

    def due(self, now):
        """The names whose time has come, the earliest first."""
        times = self._times
        names = [name for name in ALARMS if name in times and times[name] <= now]
        # Sorting keeps the order of ALARMS among equal times.
        return sorted(names, key=lambda alarm: times[alarm])

    def soonest(self):
        """The least time, or None."""
        return min(list(self._times.values()), default=None)

    def copied(self):
        """Other alarms with the same times."""
        made = Alarms()
        made._times = dict(self._times)
        return made
