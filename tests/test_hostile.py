"""Peers that send anything: no segment makes a connection or a station raise an error or lose its order."""

import unittest
from random import Random

from lossway.errors import Broken
from lossway.segments import Segment
from lossway.settings import Settings
from lossway.spans import Spans
from lossway.station import Station
from lossway.words import pack
from tests.ends import FIRST, MARK, PEER, PEER_FIRST, SOURCE, TARGET, answering, opened, opening, resumed

FLAGS = ("A", "A", "A", "A", "AF", "AU", "AFU", "", "F", "S", "SA", "SAF")
CHOICES = {"size": 64, "inbox": 16, "outbox": 40, "tries": 60, "alive": 30, "rest": 40}


def near(random, first):
    """A number that often lies near what is expected."""
    if random.random() < 0.05:
        return random.randint(0, 4294967295)
    return (first + random.randint(-3, 50)) % 64


def hostile(random):
    """A segment that a connection accepts, with any numbers."""
    return Segment(
        TARGET, SOURCE, tag=MARK, mark=PEER, flags=random.choice(FLAGS), seq=near(random, PEER_FIRST),
        ack=near(random, FIRST), window=random.choice((0, 1, 5, 16, 64, 65535)), urgent=random.choice((0, 3, 65535)),
        piece=random.choice((0, 1, 6, 8, 65535)), cookie=random.choice(((), (1, 2, 3, 4, 5, 6))),
        blocks=[(near(random, FIRST), near(random, FIRST)) for _ in range(random.randint(0, 3))],
        data=[random.randint(0, 255) for _ in range(random.choice((0, 0, 1, 5, 20)))],
    )


class HostileTest(unittest.TestCase):
    def check(self, connection, seed):
        self.assertLessEqual(connection.una, connection.top, seed)
        self.assertLessEqual(connection.top, connection.outbox.bound)
        self.assertGreaterEqual(connection.flight, 0)
        flying = Spans((connection.una, connection.top))
        for spans in (connection.sacked, connection.lost, connection.resent):
            self.assertEqual(len(spans - flying), 0)
        self.assertEqual(len(connection.sacked & connection.lost), 0)
        self.assertEqual(connection.outbox.base, min(max(connection.una, 1), connection.outbox.end))
        self.assertIn(connection.owed, (0, 1))
        if connection.state == "gone":
            self.assertEqual(len(connection.alarms), 0)
        elif connection.una < connection.top:
            self.assertIn("resend", connection.alarms)

    def use(self, connection, random, now):
        """Something that a user does."""
        if connection.state == "gone":
            return
        action = random.random()
        if action < 0.3 and not connection.outbox.closed:
            name = random.choice(("write", "urge"))
            getattr(connection, name)([random.randint(0, 255) for _ in range(random.randint(0, 20))], now)
        elif action < 0.5:
            connection.read(random.randint(0, 20), now)
        elif action < 0.55:
            connection.resize(random.randint(1, 16), now)
        elif action < 0.57:
            connection.close(now)
        elif action < 0.6:
            connection.challenge(now)

    def test_connections(self):
        ends = set()
        for seed in range(160):
            random = Random(seed)
            choices = {**CHOICES, "control": ("fixed", "climb", "curve", "delay")[seed % 4], "seek": seed % 8 < 4}
            make = (opening, answering, opened, resumed)[seed % 5 % 4]
            connection, now = make(**choices), 0
            for _ in range(300):
                now += random.choice((0, 0, 1, 1, 2, 5))
                connection.tick(now)
                self.use(connection, random, now)
                segment = hostile(random)
                accepts = connection.accepts(segment)
                self.assertIs(connection.deliver(segment, now), accepts)
                self.check(connection, seed)
                for segment in connection.drain():
                    self.assertEqual(Segment.of_row(segment.row()), segment)
            ends.add((connection.state, connection.reason))
        self.assertIn(("open", ""), ends)

    def test_stations(self):
        for seed in range(40):
            random = Random(seed)
            station = Station(Settings(**CHOICES))
            station.listen(80, backlog=random.randint(0, 2))
            station.connect(SOURCE, source=81)
            marks = [0, 5, 65537, 65538, 65539]
            for _ in range(300):
                if random.random() < 0.3:
                    station.advance()
                cookie = (random.choice(marks), random.randint(0, 70), station.now - random.randint(0, 1),
                          8, random.choice(marks), random.randint(0, 70))
                segment = hostile(random).changed(
                    source=random.choice((SOURCE, SOURCE + 1)), target=random.choice((80, 81, 82)),
                    tag=random.choice(marks), mark=random.choice(marks),
                    cookie=random.choice(((), tuple([max(0, number) for number in cookie]))),
                    flags=random.choice((*FLAGS, "R", "AR")),
                )
                result = station.deliver(pack(segment))
                self.assertIn(result, ("taken", "ignored", "challenged", "queued", "cookie", "resumed", "refused"))
                handle = station.accept(80)
                if handle is not None:
                    self.assertNotIn(station.connection(handle).state, ("answering", "gone"))
                for words in station.drain():
                    self.assertGreaterEqual(len(words), 19)
                for handle in station.handles():
                    try:
                        station.read(handle, 5)
                    except Broken:
                        station.forget(handle)


if __name__ == "__main__":
    unittest.main()
