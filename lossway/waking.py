"""What a connection does when its alarms are due."""

from lossway.answers import fail_trial
from lossway.pump import end_measurement
from lossway.sending import send_poke, send_reset
from lossway.settling import end_connection
from lossway.spans import Spans


def wake(connection, now):
    """Handle the alarms that are due."""
    alarms = connection.alarms
    names = alarms.due(now)
    for name in names:
        when = alarms.when(name)
        # What was handled before may have disarmed it, armed it anew or ended the connection.
        if when is not None and when <= now:
            alarms.disarm(name)
            wake_by(connection, name, now)


def wake_by(connection, name, now):
    """Handle one alarm."""
    if name == "resend":
        resend(connection, now)
    elif name in ("probe", "alive"):
        probe(connection, name, now)
    elif name == "delay" and connection.owed == 1:
        connection.owed = 2
    elif name == "rest":
        end_connection(connection, "done")


def give_up(connection):
    """End a connection whose peer does not answer."""
    send_reset(connection)
    end_connection(connection, "silent")


def probe(connection, name, now):
    """Poke a peer that is not known to listen, or give up."""
    if connection.unheard == connection.settings.tries:
        give_up(connection)
        return
    connection.unheard += 1
    if name == "probe":
        connection.pokes += 1
    else:
        connection.alarms.arm("alive", now + connection.settings.alive)
    send_poke(connection)


def resend(connection, now):
    """Take all that is not acknowledged as lost, poke a peer whose window is shut, or give up."""
    if connection.attempts == connection.settings.tries:
        give_up(connection)
        return
    connection.attempts += 1
    end_measurement(connection)
    una = connection.una
    if connection.state == "open" and una < connection.outbox.end and connection.peer_edge <= una:
        send_poke(connection)
    else:
        expire(connection, now)


def expire(connection, now):
    """Take all that is not acknowledged as lost."""
    if connection.control is not None:
        connection.control.on_expiry(connection.flight, now)
    connection.repeats = 0
    connection.recover = None
    connection.resent = Spans()
    fail_trial(connection)
    connection.lost = connection.lost | (Spans((connection.una, connection.top)) - connection.sacked)
