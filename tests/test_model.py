"""lossway.connection beside a plain model: promises 37 to 53 under calls and segments of any kind."""

import unittest
from random import Random

from lossway.alarms import ALARMS
from lossway.connection import Connection
from lossway.segments import Segment
from lossway.settings import Settings
from tests.ends import FIRST, MARK, PEER, PEER_FIRST, SCALARS, SOURCE, TARGET
from tests.model import Model
from tests.test_hostile import near

FLAGS = ("A",) * 12 + ("AF", "AU", "AU", "", "S", "SA")


def both(kind, settings, now):
    """A connection and its model that begin in the same way."""
    model = Model(settings, SOURCE, TARGET, MARK, FIRST, now)
    if kind == "opening":
        model.begin(now)
        return Connection.opening(settings, SOURCE, TARGET, mark=MARK, first=FIRST, now=now), model
    segment = Segment(TARGET, SOURCE, mark=PEER, flags="S", seq=PEER_FIRST, window=16, piece=7)
    model.know(PEER, PEER_FIRST, 7, 16)
    if kind == "answering":
        model.state = "answering"
        model.begin(now)
        return Connection.answering(settings, segment, mark=MARK, first=FIRST, now=now), model
    segment = segment.changed(flags="A", cookie=(MARK, FIRST, 0, 7, PEER, PEER_FIRST))
    model.state = "open"
    model.una = model.top = 1
    return Connection.resumed(settings, segment, now=now), model


def look(end):
    found = {name: getattr(end, name) for name in (*SCALARS, "flight")}
    for name in ("outbox", "inbox", "estimate", "control", "finder"):
        part = getattr(end, name)
        rows = vars(part).items() if part is not None else ()
        found[name] = {key: value for key, value in rows if key not in ("_ahead", "_latest")}
    found["told"] = end.inbox.told_runs()
    found["alarms"] = [end.alarms.when(name) for name in ALARMS]
    return found


def offsets(spans):
    return {offset for low, high in spans.rows() for offset in range(low, high)}


class ModelTest(unittest.TestCase):
    def check(self, connection, model, where):
        self.assertEqual(look(connection), look(model), where)
        for name in ("sacked", "lost", "resent"):
            self.assertEqual(offsets(getattr(connection, name)), getattr(model, name), (where, name))
        sent = [segment.row() for segment in connection.drain()]
        self.assertEqual(sent, [segment.row() for segment in model.drain()], where)

    def settings(self, random):
        piece = random.choice((1, 3, 8))
        return Settings(
            size=random.choice((64, 256)), inbox=random.choice((1, 5, 16)), outbox=random.choice((5, 90)), piece=piece,
            least=1,
            control=random.choice(("fixed", "climb", "curve", "delay")), low=random.choice((1, 4)), high=40,
            tries=random.choice((2, 60)), life=random.choice((1, 4)), delay=random.choice((0, 3)),
            join=random.random() < 0.5, tell=random.random() < 0.5, seek=random.random() < 0.5,
            alive=random.choice((0, 0, 20)), rest=random.choice((5, 40)),
        )

    def segment(self, random, connection):
        """A segment that a peer might send; often one that fits what the connection sent."""
        ack, seq = near(random, FIRST), near(random, PEER_FIRST)
        if random.random() < 0.8:
            ack = FIRST + random.randint(connection.una, connection.top)
            seq = PEER_FIRST + connection.inbox.next_offset + random.choice((0, 0, 0, 0, -1, 2, 5))
        if connection.inbox.ended:
            seq += 1
        low = FIRST + random.randint(connection.una, max(connection.una, connection.top))
        size = connection.settings.size
        return Segment(
            TARGET, SOURCE, tag=0 if random.random() < 0.05 else MARK, mark=0 if random.random() < 0.02 else PEER,
            flags="AR" if random.random() < 0.002 else random.choice(FLAGS), seq=seq % size, ack=ack % size,
            window=random.choice((0, 3, 16, 16, 40)), urgent=random.choice((0, 3)), piece=random.choice((0, 6, 8)),
            cookie=random.choice(((), (1, 2, 3, 4, 5, 6))),
            blocks=[(low % size, (low + random.randint(1, 12)) % size)] if random.random() < 0.3 else [],
            data=[random.randint(0, 255) for _ in range(random.choice((0, 0, 0, 1, 4)))],
        )

    def echo(self, random, connection):
        """An acknowledgement of a peer whose window does not change, and which misses some of what was sent."""
        size, una, top = connection.settings.size, connection.una, max(connection.una, connection.top)
        ack = una if random.random() < 0.7 else random.randint(una, top)
        blocks = []
        for _ in range(random.randint(0, 3)):
            low = random.randint(ack, top)
            blocks.append(((FIRST + low) % size, (FIRST + random.randint(low, top)) % size))
        return Segment(
            TARGET, SOURCE, tag=MARK, mark=PEER, flags="A", seq=(PEER_FIRST + connection.inbox.expected) % size,
            ack=(FIRST + ack) % size, window=max(0, connection.peer_edge - ack), blocks=blocks,
        )

    def call(self, random, connection):
        """A call that raises no error, as its name and its values."""
        names = ["read", "read", "challenge", "tick"]
        if connection.state == "gone":
            # Then a read may raise an error.
            return random.choice((("challenge", ()), ("tick", ()), ("close", ()), ("abort", ())))
        names += ["resize"] * 2
        if not connection.outbox.closed:
            names += ["write"] * 6 + ["urge"]
        if random.random() < 0.05:
            names = ["close"]
        if random.random() < 0.002:
            names = ["abort"]
        name = random.choice(names)
        if name in ("write", "urge"):
            return name, ([random.randint(0, 255) for _ in range(random.randint(0, 15))],)
        values = {"read": (random.randint(0, 16),), "resize": (random.randint(1, 16),)}
        return name, values.get(name, ())

    def play(self, seed, turns):
        random = Random(seed)
        now = random.randint(0, 20)
        connection, model = both(random.choice(("opening", "answering", "resumed")), self.settings(random), now)
        self.check(connection, model, seed)
        states = set()
        echoes = random.random() < 0.5
        for turn in range(turns):
            now += random.choice((0, 0, 0, 1, 1, 3))
            if random.random() < 0.5:
                segment = self.segment(random, connection)
                if echoes and connection.peer_mark is not None and random.random() < 0.95:
                    segment = self.echo(random, connection)
                if random.random() < 0.3 and connection.state == "opening":
                    segment = segment.changed(
                        flags=random.choice(("S", "SA", "SA")), ack=(FIRST + 1) % connection.settings.size,
                        tag=random.choice((0, MARK)),
                    )
                name, values = "deliver", (segment,)
            elif random.random() < 0.5:
                name, values = "tick", ()
            else:
                name, values = self.call(random, connection)
            found = getattr(connection, name)(*values, now)
            self.assertEqual(found, getattr(model, name)(*values, now), (seed, turn, name))
            self.check(connection, model, (seed, turn, name))
            states.add(connection.state)
            if connection.state == "gone":
                states.add(connection.reason)
        return states

    def test_the_model(self):
        states = set()
        for seed in range(300):
            states |= self.play(seed, 200)
        wanted = {"opening", "answering", "open", "resting", "gone", "done", "reset", "aborted", "silent"}
        self.assertEqual(states, wanted)


if __name__ == "__main__":
    unittest.main()
