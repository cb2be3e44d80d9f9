"""Congestion windows: the rules of all of them, a fixed one and a climbing one."""

from lossway.checks import is_between
from lossway.errors import InvalidNumber, InvalidSetting

MOST_PIECES = 64


def require_new_bytes(count):
    """Raise InvalidNumber unless so many bytes can be acknowledged at once."""
    if not is_between(count, 1, 65535):
        raise InvalidNumber(count)


class Control:
    """A congestion window in bytes that grows up to a threshold."""

    GREATEST = 4194304
    KIND = "base"

    def __init__(self, unit):
        if not is_between(unit, 1, 65535):
            raise InvalidSetting("unit")
        self.unit = unit
        self.window = 2 * unit
        self.threshold = Control.GREATEST
        self.credit = 0
        self.stalled = False

    @property
    def starting(self):
        """True as long as the window is below the threshold."""
        return self.window < self.threshold

    def on_ack(self, count, flight, now):
        """So many new bytes were acknowledged."""
        require_new_bytes(count)
        self.stalled = False
        # A window that is not half in use has not shown that the net carries more.
        if 2 * (flight + count) < self.window:
            return
        if self.starting:
            self._set_window(self.window + min(count, self.unit))
        else:
            self.grow(count, now)

    def grow(self, count, now):
        """Grow above the threshold; this window does not."""
        require_new_bytes(count)

    def on_loss(self, flight, now):
        """A loss was found without an expiry."""
        self.threshold = max(flight // 2, 2 * self.unit)
        self._set_window(self.threshold)
        self.credit = 0

    def on_expiry(self, flight, now):
        """The resend alarm fired."""
        # What is in flight tells of the path only at the first of several expiries.
        if not self.stalled:
            self.threshold = max(flight // 2, 2 * self.unit)
        self.window = self.unit
        self.credit = 0
        self.stalled = True

    def on_sample(self, ticks):
        """A round trip took so many ticks; this window does not care."""

    def _set_window(self, window):
        self.window = min(window, Control.GREATEST)


class Fixed(Control):
    """A window that never changes."""

    KIND = "fixed"

    def __init__(self, unit, pieces=8):
        super().__init__(unit)
        if not is_between(pieces, 1, MOST_PIECES):
            raise InvalidSetting("pieces")
        self.window = unit * pieces

    def on_ack(self, count, flight, now):
        """So many new bytes were acknowledged."""
        require_new_bytes(count)
        self.stalled = False

    def grow(self, count, now):
        """This window does not grow."""
        require_new_bytes(count)

    def on_loss(self, flight, now):
        """A loss was found; this window does not care."""

    def on_expiry(self, flight, now):
        """The resend alarm fired."""
        self.stalled = True

    def on_sample(self, ticks):
        """A round trip took so many ticks; this window does not care."""


class Climb(Control):
    """A window that grows by one unit for each window of acknowledged bytes."""

    KIND = "climb"

    def on_ack(self, count, flight, now):
        """So many new bytes were acknowledged."""
        super().on_ack(count, flight, now)

    def grow(self, count, now):
        """Take a step for each window of bytes that the credit pays."""
        require_new_bytes(count)
        self.credit += count
        while self.credit >= self.window:
            self.credit -= self.window
            self._step()

    def _step(self):
        self._set_window(self.window + self.unit)

    def on_loss(self, flight, now):
        """A loss was found without an expiry."""
        super().on_loss(flight, now)

    def on_expiry(self, flight, now):
        """The resend alarm fired."""
        super().on_expiry(flight, now)

    def on_sample(self, ticks):
        """A round trip took so many ticks."""
        super().on_sample(ticks)
