"""The pace of a connection, its end, and how it settles after each call."""

from lossway.alarms import ALARMS
from lossway.pump import pace_limit, pump
from lossway.sending import send_acknowledgement

MOST_POKES = 60


def period_of(settings, now):
    """The number of the period at a time."""
    # No segment of a period is still in the net when the second next one begins.
    return now // (settings.life + 1)


def roll(connection, now):
    """Bring the pace up to date."""
    period = period_of(connection.settings, now)
    if period > connection.period:
        connection.older = connection.newer if period == connection.period + 1 else connection.una
        connection.newer = connection.una
        connection.period = period


def disarm_all(connection):
    """Remove the times of all alarms."""
    for name in ALARMS:
        connection.alarms.disarm(name)


def end_connection(connection, reason):
    """Let the connection be gone."""
    connection.state = "gone"
    connection.reason = reason
    disarm_all(connection)


def arm_rest(connection, now):
    """Let a resting connection rest anew."""
    if connection.state == "resting":
        connection.alarms.arm("rest", now + connection.settings.rest)


def settle(connection, now):
    """Send what can be sent, and set the alarms, unless the connection is gone."""
    if connection.state == "gone":
        return
    if connection.state != "resting":
        pump(connection, now)
    settle_owed(connection, now)
    settle_end(connection, now)
    if connection.state == "gone":
        return
    if connection.state != "resting":
        settle_resend(connection, now)
    settle_probe(connection, now)
    settle_pace(connection)
    settle_alive(connection, now)


def arm_if_not_armed(connection, name, when):
    """Set the time of an alarm that has none."""
    if name not in connection.alarms:
        connection.alarms.arm(name, when)


def settle_owed(connection, now):
    """Send an acknowledgement that is due, or let it wait."""
    delay = connection.settings.delay
    if connection.owed == 2 or connection.owed == 1 and delay == 0:
        send_acknowledgement(connection)
    if connection.owed == 1:
        arm_if_not_armed(connection, "delay", now + delay)


def settle_end(connection, now):
    """End or rest if both streams have ended and all is acknowledged."""
    outbox = connection.outbox
    sent = connection.state == "open" and outbox.closed and connection.una == outbox.bound
    if not sent or not connection.inbox.ended:
        return
    if connection.rests:
        connection.state = "resting"
        disarm_all(connection)
        arm_rest(connection, now)
    else:
        end_connection(connection, "done")


def settle_resend(connection, now):
    """Wait for an acknowledgement as long as something is not acknowledged."""
    if connection.una == connection.top:
        connection.alarms.disarm("resend")
    else:
        arm_if_not_armed(connection, "resend", now + connection.estimate.backed(connection.attempts))


def settle_probe(connection, now):
    """Ask for a wider window as long as that alone holds the bytes back."""
    top = connection.top
    waits = connection.una == top and top < connection.outbox.end and connection.peer_edge <= top
    if connection.state == "open" and waits:
        arm_if_not_armed(connection, "probe", now + connection.estimate.backed(min(connection.pokes, MOST_POKES)))
    else:
        connection.alarms.disarm("probe")
        connection.pokes = 0


def settle_pace(connection):
    """Wake with the next period as long as the pace holds bytes back."""
    waits = connection.top < connection.outbox.end and pace_limit(connection) <= connection.top
    if connection.state == "open" and waits:
        connection.alarms.arm("pace", (connection.period + 1) * (connection.settings.life + 1))
    else:
        connection.alarms.disarm("pace")


def settle_alive(connection, now):
    """Ask for a sign of life of an idle peer, if the settings want that."""
    if connection.state == "open" and connection.settings.alive > 0:
        arm_if_not_armed(connection, "alive", now + connection.settings.alive)
