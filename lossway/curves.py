"""Congestion windows that follow a curve over time or the delay of the path, and the choice of a kind."""

from lossway.control import Climb, Fixed, require_new_bytes
from lossway.errors import InvalidSetting

KINDS = ("fixed", "climb", "curve", "delay")


def is_kind(value):
    """True for the name of a kind of windows."""
    return isinstance(value, str) and value in KINDS


class Curve(Climb):
    """A window that comes back to its last peak along a cubic curve, and goes on behind it."""

    KIND = "curve"

    def __init__(self, unit):
        super().__init__(unit)
        self.peak = 0
        self.span = 0
        self.born = None

    def on_ack(self, count, flight, now):
        """So many new bytes were acknowledged."""
        super().on_ack(count, flight, now)

    def grow(self, count, now):
        """Follow the curve since the last loss; climb as long as there is none."""
        require_new_bytes(count)
        if self.born is None:
            super().grow(count, now)
            return
        target = self.peak + self.unit * (now - self.born - self.span) ** 3 // 64
        self._set_window(min(self.window + count, max(self.window, target)))

    def on_loss(self, flight, now):
        """A loss was found without an expiry: a new curve begins."""
        self.peak = self.window
        self.threshold = max(self.window * 7 // 10, 2 * self.unit)
        self.window = self.threshold
        self.credit = 0
        self.born = now
        self.span = self._span_to(self.peak)

    def _span_to(self, peak):
        """The number of ticks after which the curve is back at the peak."""
        span = 0
        while self.unit * span ** 3 < 64 * (peak - self.window):
            span += 1
        return span

    def on_expiry(self, flight, now):
        """The resend alarm fired: the curve ends."""
        self.peak = self.window
        self.born = None
        super().on_expiry(flight, now)

    def on_sample(self, ticks):
        """A round trip took so many ticks."""
        super().on_sample(ticks)


class Delay(Climb):
    """A window that climbs as long as the path does not become slower."""

    KIND = "delay"

    def __init__(self, unit):
        super().__init__(unit)
        self.least = 0
        self.latest = 0
        self.samples = 0

    def on_ack(self, count, flight, now):
        """So many new bytes were acknowledged."""
        super().on_ack(count, flight, now)

    def grow(self, count, now):
        """Take a step for each window of bytes that the credit pays."""
        super().grow(count, now)

    def _step(self):
        surplus = self._surplus()
        if surplus < 2 * self.unit:
            self._set_window(self.window + self.unit)
        elif surplus > 4 * self.unit:
            self.window = max(2 * self.unit, self.window - self.unit)

    def _surplus(self):
        """The number of bytes of the window that wait on the path instead of moving."""
        if self.latest == 0:
            return 0
        return self.window * (self.latest - self.least) // self.latest

    def on_loss(self, flight, now):
        """A loss was found without an expiry."""
        super().on_loss(flight, now)

    def on_expiry(self, flight, now):
        """The resend alarm fired."""
        super().on_expiry(flight, now)

    def on_sample(self, ticks):
        """A round trip took so many ticks."""
        self.latest = ticks
        self.least = ticks if self.samples == 0 else min(self.least, ticks)
        self.samples += 1


def control_of(kind, unit):
    """A new control of a kind."""
    if not is_kind(kind):
        raise InvalidSetting("control")
    if kind == "fixed":
        return Fixed(unit)
    if kind == "climb":
        return Climb(unit)
    return Curve(unit) if kind == "curve" else Delay(unit)


def copied_control(control):
    """Another control of the same kind in the same state."""
    made = control_of(control.KIND, control.unit)
    made.window = control.window
    made.threshold = control.threshold
    made.credit = control.credit
    made.stalled = control.stalled
    if isinstance(control, Curve):
        made.peak = control.peak
        made.span = control.span
        made.born = control.born
    elif isinstance(control, Delay):
        made.least = control.least
        made.latest = control.latest
        made.samples = control.samples
    return made
