"""Two stations over a net: openings, both streams, closing, losses and crashes."""

import unittest
from random import Random

from lossway.errors import Broken
from lossway.settings import Settings
from tests.pairs import Pair

CONTROLS = ("fixed", "climb", "curve", "delay")


class User:
    """A user of one end who writes all of a stream, reads all that comes and closes at last."""

    def __init__(self, pair, side, handle, stream, step, urgent=False):
        self.pair, self.side, self.handle = pair, side, handle
        self.left, self.step, self.urgent = list(stream), step, urgent
        self.read = []
        self.closed = False

    @property
    def connection(self):
        return self.pair.connection(self.side, self.handle)

    def act(self):
        if self.connection.state != "gone":
            self.write()
        try:
            self.read.extend(self.pair.call(self.side, "read", self.handle, 10 ** 6))
        except Broken:
            pass

    def write(self):
        if self.left:
            name = "urge" if self.urgent else "write"
            count = self.pair.call(self.side, name, self.handle, self.left[:self.step])
            del self.left[:count]
        elif not self.closed:
            self.pair.call(self.side, "close", self.handle)
            self.closed = True


def stream(seed, count):
    random = Random(seed)
    return [random.randint(0, 255) for _ in range(count)]


def play(pair, users, ticks=6000):
    """Let time pass until both ends are gone, and return the number of ticks."""
    for tick in range(ticks):
        if all([user.connection.state == "gone" for user in users]):
            return tick
        for user in users:
            user.act()
        pair.advance()
    raise AssertionError([(user.connection.state, user.connection.una, user.connection.top) for user in users])


def opened(pair, streams, steps=(20, 20), backlog=2):
    """Users of both ends of a connection that side 0 opens."""
    pair.call(1, "listen", 80, backlog=backlog)
    client = pair.call(0, "connect", 80)
    users = [User(pair, 0, client, streams[0], steps[0])]
    server = None
    while server is None:
        users[0].act()
        pair.advance()
        server = pair.call(1, "accept", 80)
    return [*users, User(pair, 1, server, streams[1], steps[1], urgent=True)]


def wide(life, random, size):
    """Choices of a fair world."""
    piece = random.randint(1, 12)
    return Settings(
        size=size, inbox=random.randint(1, min(64, size // 4)), outbox=random.randint(1, 64), piece=piece,
        least=random.randint(1, piece), control=random.choice(CONTROLS), low=2 * life + 3, high=100,
        tries=random.randint(8, 12), life=life, delay=random.randint(0, 2), join=random.random() < 0.5,
        tell=random.random() < 0.5, seek=random.random() < 0.5, rest=random.randint(60, 90),
    )


def fate(random, life):
    if random.random() < 0.5:
        return (random.randint(1, life),)
    copies = []
    for _ in range(random.choice((0, 0, 1, 2))):
        delay = random.randint(1, life)
        bends = random.random() < 0.3
        copies.append((delay, random.randint(0, 65535), random.randint(1, 65535)) if bends else delay)
    return tuple(copies)


class PlainNetTest(unittest.TestCase):
    def test_example(self):
        pair = Pair(Settings())
        client, server = pair.open()
        self.assertEqual((client, server, pair.call(0, "write", client, [104, 105])), (1, 1, 2))
        pair.advance()
        self.assertEqual(pair.call(1, "read", server, 10), (104, 105))

    def test_all_that_is_sent(self):
        pair = Pair(Settings())
        client, server = pair.open()
        pair.call(0, "write", client, [104, 105])
        pair.call(0, "close", client)
        pair.advance(2)
        self.assertEqual(pair.call(1, "read", server, 10), (104, 105))
        pair.call(1, "close", server)
        pair.advance(80)
        self.assertEqual([[segment.flags for segment in segments] for segments in pair.sent],
                         [["S", "A", "A", "AF", "A"], ["SA", "A", "AF"]])
        self.assertEqual(pair.results[0], ["taken"] * 3)
        self.assertEqual(pair.results[1], ["queued"] + ["taken"] * 4)
        self.assertEqual([pair.connection(side, 1).reason for side in (0, 1)], ["done", "done"])

    def test_both_directions(self):
        for control in CONTROLS:
            for size in (64, 128, 1024, 4294967296):
                pair = Pair(Settings(size=size, inbox=16, control=control, low=20))
                streams = stream(1, 300), stream(2, 200)
                users = opened(pair, streams)
                play(pair, users)
                self.assertEqual([users[1].read, users[0].read], [streams[0], streams[1]])
                self.assertEqual([user.connection.reason for user in users], ["done", "done"])
                self.assertEqual([user.connection.confirmed for user in users], [300, 200])

    def test_who_closes_first_rests(self):
        for first, second in ((0, 1), (1, 0)):
            pair = Pair(Settings(rest=30))
            handles = pair.open()
            pair.call(first, "close", handles[first])
            pair.advance(5)
            pair.call(second, "close", handles[second])
            pair.advance(2)
            states = [pair.connection(side, handles[side]).state for side in (first, second)]
            self.assertEqual(states, ["resting", "gone"])
            pair.advance(40)
            self.assertEqual(pair.connection(first, handles[first]).reason, "done")

    def test_openings_that_cross(self):
        pair = Pair(Settings())
        handles = [pair.call(side, "connect", 5 - side, source=4 + side) for side in (0, 1)]
        users = [User(pair, side, handles[side], stream(side, 50), 9) for side in (0, 1)]
        pair.advance(3)
        self.assertEqual([user.connection.state for user in users], ["open", "open"])
        self.assertEqual([[segment.flags for segment in segments] for segments in pair.sent], [["S", "SA", "A"]] * 2)
        self.assertEqual(users[0].connection.mark, users[1].connection.peer_mark)
        play(pair, users)
        self.assertEqual([user.read for user in users], [stream(1, 50), stream(0, 50)])

    def test_a_cookie(self):
        pair = Pair(Settings(low=20))
        users = opened(pair, (stream(1, 90), stream(2, 90)), backlog=0)
        self.assertEqual(pair.results[1][:2], ["cookie", "resumed"])
        play(pair, users)
        self.assertEqual([user.read for user in users], [stream(2, 90), stream(1, 90)])

    def test_another_first_number_only_shifts(self):
        found = []
        for first in (0, 500, 1020):
            pair = Pair(Settings(low=20), plans=([(2,), (), (3, 5)], [(4,), ()]))
            pair.call(1, "listen", 80)
            client = pair.call(0, "connect", 80, first=first)
            user = User(pair, 0, client, stream(1, 150), 9)
            for _ in range(300):
                user.act()
                pair.advance()
            found.append([segment.changed(seq=(segment.seq - first) % 1024).row() for segment in pair.sent[0]])
        self.assertEqual(found[0], found[1])
        self.assertEqual(found[0], found[2])

    def test_a_search_finds_what_the_path_carries(self):
        for girth in (4, 5, 7, 11, 12, 20):
            pair = Pair(Settings(seek=True, piece=12, low=20, outbox=64), girth=girth)
            client, server = pair.open()
            for _ in range(400):
                connection = pair.connection(0, client)
                if connection.una == connection.outbox.end and connection.older + 256 >= connection.una + 40:
                    pair.call(0, "write", client, [7] * max(1, connection.finder.trial()))
                pair.call(1, "read", server, 1000)
                pair.advance()
            finder = pair.connection(0, client).finder
            self.assertEqual((finder.size, finder.ceiling), (min(girth, 12), min(girth, 12)))

    def test_a_peer_that_crashed(self):
        pair = Pair(Settings())
        client, server = pair.open()
        pair.call(0, "write", client, [1, 2, 3])
        pair.advance(2)
        pair.call(1, "crash")
        pair.advance()
        pair.call(1, "start")
        pair.call(0, "write", client, [4])
        pair.advance(3)
        self.assertEqual((pair.connection(0, client).reason, pair.results[1][-1]), ("reset", "refused"))

    def test_a_peer_that_stays_down(self):
        pair = Pair(Settings(tries=3))
        client, _ = pair.open()
        pair.call(1, "crash")
        pair.call(0, "write", client, [4])
        pair.advance(200)
        self.assertEqual(pair.connection(0, client).reason, "silent")
        self.assertEqual([segment.flags for segment in pair.sent[0]][2:], ["A", "A", "A", "A", "AR"])

    def test_an_opening_after_a_crash(self):
        pair = Pair(Settings())
        client, server = pair.open()
        pair.call(0, "crash")
        pair.call(0, "start")
        again = pair.call(0, "connect", 80)
        # The old end is challenged, its answer is refused, and the reset makes way for the next opening.
        pair.advance(30)
        self.assertEqual(pair.connection(1, server).reason, "reset")
        self.assertEqual((pair.connection(0, again).state, pair.call(1, "accept", 80)), ("open", server + 1))
        self.assertIn("challenged", pair.results[1])

    def test_a_shut_window(self):
        pair = Pair(Settings(inbox=8, outbox=64))
        client, server = pair.open()
        pair.call(0, "write", client, [offset for offset in range(40)])
        pair.advance(200)
        connection = pair.connection(0, client)
        self.assertEqual((connection.una, connection.top, "probe" in connection.alarms), (9, 9, True))
        read = []
        for _ in range(60):
            read.extend(pair.call(1, "read", server, 3))
            pair.advance()
        self.assertEqual(read, list(range(40)))


class PoorNetTest(unittest.TestCase):
    def check(self, seed):
        random = Random(seed)
        life, size = random.randint(1, 6), random.choice((64, 128, 256, 1024))
        plans = [[fate(random, life) for _ in range(random.randint(0, 7))] for _ in range(2)]
        pair = Pair(wide(life, random, size), wide(life, random, size), plans=plans)
        streams = stream(seed, random.randint(0, 200)), stream(seed + 1, random.randint(0, 200))
        users = opened(pair, streams, (random.randint(1, 30), random.randint(1, 30)), random.choice((1, 2)))
        play(pair, users)
        self.assertEqual([users[1].read, users[0].read], [streams[0], streams[1]], seed)
        self.assertEqual([user.connection.reason for user in users], ["done", "done"], seed)

    def test_fair_nets(self):
        for seed in range(60):
            self.check(seed)

    def test_any_net_and_any_settings(self):
        for seed in range(60):
            random = Random(seed)
            life = random.randint(1, 9)
            choices = {"size": 64, "inbox": random.randint(1, 16), "life": life, "low": random.randint(1, 6)}
            plans = [[fate(random, life) for _ in range(60)] for _ in range(2)]
            pair = Pair(Settings(seek=True, **choices), Settings(join=False, tries=2, **choices), plans=plans)
            pair.call(1, "listen", 80, backlog=random.choice((0, 1)))
            streams = stream(seed, 300), stream(seed + 1, 300)
            users = [User(pair, 0, pair.call(0, "connect", 80), streams[0], 30)]
            for _ in range(900):
                pair.advance()
                server = pair.call(1, "accept", 80)
                if server is not None:
                    users.append(User(pair, 1, server, streams[1], 30))
                for user in users:
                    user.act()
                self.check_prefixes(users, streams)

    def check_prefixes(self, users, streams):
        client, *servers = users
        for server in servers:
            if server.connection.mark == client.connection.peer_mark:
                self.assertEqual(client.read, streams[1][:len(client.read)])
                self.assertLessEqual(client.connection.confirmed, server.connection.inbox.next_offset - 1)
                self.assertLessEqual(server.connection.confirmed, client.connection.inbox.next_offset - 1)
            if server.read:
                self.assertEqual(server.connection.peer_mark, client.connection.mark)
                self.assertEqual(server.read, streams[0][:len(server.read)])

    def test_bent_copies_change_nothing(self):
        for seed in range(20):
            found = []
            for bends in (True, False):
                random = Random(seed)
                plans = [[fate(random, 4) for _ in range(12)] for _ in range(2)]
                if not bends:
                    plans = [[[copy for copy in row if isinstance(copy, int)] for row in plan] for plan in plans]
                pair = Pair(Settings(life=4, low=11, tries=30), plans=plans)
                users = opened(pair, (stream(1, 100), stream(2, 100)))
                play(pair, users)
                found.append((pair.lists, [user.read for user in users]))
            self.assertEqual(found[0], found[1])

    def test_no_byte_beyond_the_greatest_edge(self):
        for seed in range(30):
            random = Random(seed)
            plans = [[fate(random, 4) for _ in range(30)] for _ in range(2)]
            pair = Pair(Settings(life=4, inbox=random.randint(1, 20), outbox=60, join=False), plans=plans)
            pair.call(1, "listen", 80)
            user = User(pair, 0, pair.call(0, "connect", 80, first=0), stream(1, 200), 60)
            server = None
            for _ in range(400):
                user.act()
                pair.advance()
                server = server or pair.call(1, "accept", 80)
                if server is not None:
                    pair.call(1, "read", server, random.randint(0, 5))
                    pair.call(1, "resize", server, random.randint(1, 20))
            edge = max([0] + [segment.ack + segment.window for segment in pair.sent[1] if "A" in segment.flags])
            for segment in pair.sent[0]:
                if len(segment.data) > 0:
                    self.assertLessEqual(segment.seq + len(segment.data), edge)


class RepeatedTest(unittest.TestCase):
    def test_the_same_calls_lead_to_the_same_lists(self):
        found = []
        for _ in range(2):
            pair = Pair(Settings(low=20), plans=([(), (2, 3)], [(4,)]))
            users = opened(pair, (stream(1, 100), stream(2, 100)))
            play(pair, users)
            found.append(pair.lists)
        self.assertEqual(found[0], found[1])


if __name__ == "__main__":
    unittest.main()
