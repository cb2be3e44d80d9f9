"""The promises of whole worlds, over many drawn ones."""

import unittest
from random import Random

from lossway.errors import InvalidWords
from lossway.ledgers import unsound
from lossway.settings import Settings
from lossway.words import unpack
from lossway.world import World
from tests.worlds import CONTROLS, drawn_fate, drawn_plans, drawn_world, lists_of, open_world

WIDE = 4294967296


def segments(trace):
    """The events of a trace that carry segments, each as "in" or "out" and the segment."""
    found = []
    for event in trace:
        if event[0] in ("in", "out"):
            try:
                found.append((event[0], unpack(event[1])))
            except InvalidWords:
                pass
    return found


def stream(seed, count):
    random = Random(seed)
    return [random.randint(0, 255) for _ in range(count)]


class LedgerTest(unittest.TestCase):
    def check_rows(self, rows):
        marks = [(side, mark) for side, mark, _, _, _ in rows]
        self.assertEqual(len(set(marks)), len(marks))
        readers = [(side, peer) for side, _, peer, _, read in rows if read]
        self.assertEqual(len(set(readers)), len(readers))
        for side, mark, peer, _, read in rows:
            if read:
                written = [row[3] for row in rows if row[:3] == (1 - side, peer, mark)]
                self.assertEqual(len(written), 1)
                self.assertEqual(written[0][:len(read)], read)

    def test_what_is_read_is_the_beginning_of_what_the_peer_wrote(self):
        read = crashed = 0
        for seed in range(150):
            world, users, _ = drawn_world(seed)
            rows = world.ledger()
            self.check_rows(rows)
            self.assertIsNone(unsound(rows))
            read += sum([len(row[4]) for row in rows])
            crashed += sum([station.era > 1 for station in world.stations])
        self.assertGreater(read, 3000)
        self.assertGreater(crashed, 10)

    def test_what_the_peer_has_stored(self):
        pairs = 0
        for seed in range(80):
            world, users, _ = drawn_world(seed)
            for (side, mark), end in users.seen.items():
                peer = users.seen.get((1 - side, end.peer_mark))
                if end.confirmed > 0:
                    pairs += 1
                    self.assertEqual((peer.mark, peer.peer_mark), (end.peer_mark, mark), seed)
                    self.assertLess(end.confirmed, peer.inbox.next_offset, seed)
        self.assertGreater(pairs, 100)


class EdgeTest(unittest.TestCase):
    def edges(self, trace, size):
        """For each sent segment with bytes, where they end and the greatest edge that had arrived."""
        firsts, edges, found = {}, {}, []
        for kind, segment in segments(trace):
            if kind == "in" and segment.flags == "S":
                # Before the own mark is known to the peer, its opening tells the window of all answers.
                edges[segment.mark] = 1 + segment.window
            elif kind == "in" and "A" in segment.flags and segment.tag in firsts:
                told = (segment.ack - firsts[segment.tag]) % size + segment.window
                key = (segment.tag, segment.mark)
                edges[key] = max(edges.get(key, 0), told)
            elif kind == "out" and "S" in segment.flags:
                firsts[segment.mark] = segment.seq
            elif kind == "out" and segment.data:
                end = (segment.seq - firsts[segment.mark]) % size + len(segment.data)
                opened = edges.get(segment.tag, 0)
                found.append((end, max(opened, edges.get((segment.mark, segment.tag), 0))))
        return found

    def test_no_byte_beyond_the_greatest_edge(self):
        many = 0
        for seed in range(80):
            world, _, settings = drawn_world(seed)
            if settings[0].size == WIDE:
                for side in (0, 1):
                    rows = self.edges(world.trace(side), WIDE)
                    many += len(rows)
                    for end, edge in rows:
                        self.assertLessEqual(end, edge, seed)
        self.assertGreater(many, 500)

    def test_a_window_that_is_withdrawn(self):
        world = open_world(Settings(size=WIDE, outbox=60, join=False))
        world.call(1, "resize", 1, 3)
        world.call(0, "write", 1, list(range(60)))
        read = []
        for _ in range(400):
            read.extend(world.call(1, "read", 1, 2))
            world.advance()
        for end, edge in self.edges(world.trace(0), WIDE):
            self.assertLessEqual(end, edge)
        self.assertEqual(read, list(range(60)))


class Script:
    """Calls that are made whatever happens: two users who write, read and close, once with a crash between."""

    def __init__(self, seed, ticks=250, crash=False):
        random = Random(seed)
        self.rows = {}
        for tick in range(ticks):
            rows = []
            for side in (0, 1):
                if random.random() < 0.25:
                    rows.append((side, "write", stream(seed + tick + side, random.randint(1, 30))))
                if random.random() < 0.6:
                    rows.append((side, "read", random.randint(1, 40)))
            self.rows[tick] = rows
        self.rows[ticks * 2 // 3].append((0, "close"))
        self.rows[ticks * 3 // 4].append((1, "close"))
        self.crash = ticks // 2 if crash else None

    def play(self, world, **options):
        handles = [world.call(0, "connect", 80, **options), None]
        world.call(1, "listen", 80)
        for tick, rows in self.rows.items():
            handles[1] = handles[1] or world.call(1, "accept", 80)
            for side, name, *values in rows:
                self.call(world, side, handles[side], name, values)
            if tick == self.crash:
                world.call(1, "crash")
                world.call(1, "start")
                world.call(1, "listen", 80)
                handles = [world.call(0, "connect", 80, **options), None]
            world.advance()
        return world

    def call(self, world, side, handle, name, values):
        if handle is not None and world.stations[side].status(handle)["state"] != "gone":
            if name == "read" or not world.stations[side].connection(handle).outbox.closed:
                world.call(side, name, handle, *values)


def tamer(fates):
    return [tuple([copy for copy in fate if isinstance(copy, int)]) for fate in fates]


class BentTest(unittest.TestCase):
    def test_bent_copies_change_nothing(self):
        for seed in range(40):
            random = Random(seed)
            plans = [[drawn_fate(random, 4, 0.15, 0.5) for _ in range(60)] for _ in range(2)]
            common = [drawn_fate(random, 4, 0.1, 0.6) for _ in range(3)]
            found = []
            for one, both in ((plans, common), ([tamer(plan) for plan in plans], tamer(common))):
                world = World(Settings(life=4), Settings(life=4, piece=5), plans=one, common=both)
                Script(seed, crash=seed % 2 == 1).play(world)
                outs = [lists_of(world.trace(side), "out") for side in (0, 1)]
                found.append((outs, world.ledger(), [lists_of(world.trace(side), "call") for side in (0, 1)]))
            self.assertEqual(found[0], found[1], seed)


class ShiftTest(unittest.TestCase):
    def shifted(self, trace, shifts, size):
        """The segments of a trace, with the offsets of the shifted streams counted back."""
        found = []
        for kind, segment in segments(trace):
            own, peer = (segment.mark, segment.tag) if kind == "out" else (segment.tag, segment.mark)
            mine, other = ("seq", "ack") if kind == "out" else ("ack", "seq")
            change = {}
            shift = shifts.get(own, 0)
            if mine == "seq" or "A" in segment.flags:
                change[mine] = (getattr(segment, mine) - shift) % size
            if kind == "in":
                change["blocks"] = [((low - shift) % size, (high - shift) % size) for low, high in segment.blocks]
            found.append((kind, segment.changed(**change)))
        return found

    def test_another_first_number_shifts_the_numbers_alone(self):
        for seed in range(20):
            for size in (64, 1024, WIDE):
                found = []
                for first in (0, 1, size // 2, size - 1):
                    plans = drawn_plans(Random(seed), 4, 30)
                    settings = Settings(life=4, size=size, inbox=16)
                    world = Script(seed, 120).play(World(settings, settings, plans=plans), first=first)
                    ledger = world.ledger()
                    shifts = {row[1]: first for row in ledger if row[0] == 0}
                    kinds = [event[0] for event in world.trace(0)]
                    found.append((kinds, ledger, self.shifted(world.trace(0), shifts, size)))
                for other in found[1:]:
                    self.assertEqual(other, found[0], (seed, size))


class FairTest(unittest.TestCase):
    def settings(self, random, size, life):
        piece = random.randint(1, 8)
        delay = random.randint(0, 3)
        low = 2 * life + 4 + random.randint(0, 5)
        return Settings(
            size=size, inbox=random.randint(1, min(64, size // 4)), outbox=random.randint(1, 64), piece=piece,
            least=random.randint(1, piece), control=random.choice(CONTROLS), low=low, high=low + random.randint(0, 60),
            tries=60, life=life, delay=delay, join=random.random() < 0.5, tell=random.random() < 0.5,
            seek=random.random() < 0.5, rest=random.randint(1, 90),
        )

    def fates(self, random, life, losses):
        """Fates of which at most so many have no unbent copy."""
        plan = []
        for _ in range(random.randint(0, 40)):
            fate = drawn_fate(random, life, 0.3)
            if not tamer([fate])[0]:
                losses -= 1
                fate = fate if losses >= 0 else (random.randint(1, life),)
            plan.append(fate)
        return plan

    def check(self, seed, sources, crossing=False):
        random = Random(seed)
        size, life = random.choice((64, 256, 1024, WIDE)), random.randint(1, 6)
        settings = [self.settings(random, size, life) for _ in range(2)]
        # A list takes at most nine offsets and counts once more, so five lost lists are within the tries.
        plans = [self.fates(random, life, 3), self.fates(random, life, 2)]
        world = World(*settings, girth=random.choice((1400, 8)), plans=plans)
        listeners = (80, 81)
        for side in (0, 1):
            world.call(side, "listen", listeners[side], backlog=9)
        users = []
        for number, (side, source) in enumerate(sources):
            target = source if crossing else listeners[1 - side]
            users.append(Reader(world, side, world.call(side, "connect", target, source=source), seed + number))
        for tick in range(9000):
            for side in (0, 1):
                handle = world.call(side, "accept", listeners[side])
                if handle is not None:
                    users.append(Reader(world, side, handle, seed + 100 + len(users)))
            for user in users:
                user.act()
            if world.quiet and all([user.is_gone() for user in users]):
                break
            world.advance()
        self.check_ends(users, len(sources) if crossing else 2 * len(sources), seed)
        self.assertIsNone(unsound(world.ledger()))

    def check_ends(self, users, many, seed):
        self.assertEqual(len(users), many, seed)
        for user in users:
            end = user.end()
            self.assertEqual(end.state, "gone", seed)
            # An end whose last acknowledgement was lost may find that its peer has rested and gone.
            self.assertIn(end.reason, ("done", "reset"), seed)
            peer, = [other for other in users if other.side != user.side and other.end().mark == end.peer_mark]
            self.assertEqual(user.read, peer.stream, seed)

    def test_one_connection(self):
        for seed in range(40):
            self.check(seed, [(seed % 2, 5)])

    def test_several_connections_beside_each_other(self):
        for seed in range(20):
            self.check(seed, [(0, 5), (0, 6), (1, 5), (1, 7)])

    def test_openings_that_cross(self):
        for seed in range(20):
            self.check(seed, [(0, 5), (1, 5)], crossing=True)

    def test_a_cookie(self):
        for seed in range(20):
            random = Random(seed)
            settings = Settings(low=20, life=8, tries=20)
            plans = [[drawn_fate(random, 8, 0) for _ in range(20)] for _ in range(2)]
            world = World(settings, settings, plans=plans)
            world.call(1, "listen", 80, backlog=0)
            users = [Reader(world, 0, world.call(0, "connect", 80), seed)]
            for _ in range(1200):
                handle = world.call(1, "accept", 80)
                if handle is not None:
                    users.append(Reader(world, 1, handle, seed + 1))
                for user in users:
                    user.act()
                world.advance()
            self.check_ends(users, 2, seed)

    def test_nobody_is_gone_before_both_have_closed(self):
        for seed in range(20):
            random = Random(seed)
            settings = [self.settings(random, 256, 4) for _ in range(2)]
            world = open_world(*settings, plans=[self.fates(random, 4, 3), self.fates(random, 4, 2)])
            world.call(seed % 2, "close", 1)
            world.call(0, "write", 1, [5]) if seed % 2 else world.call(1, "write", 1, [5])
            for _ in range(600):
                for side in (0, 1):
                    world.call(side, "read", 1, 9)
                world.advance()
            self.assertEqual([world.stations[side].status(1)["state"] for side in (0, 1)], ["open", "open"])


class Reader:
    """A user who writes all of a stream, reads all that is ready in every tick, and closes at last."""

    def __init__(self, world, side, handle, seed):
        random = Random(seed)
        self.world, self.side, self.handle = world, side, handle
        self.stream = stream(seed, random.randint(0, 150))
        self.left = list(self.stream)
        self.step = random.randint(1, 40)
        self.read = []
        self.closed = False

    def end(self):
        return self.world.stations[self.side].connection(self.handle)

    def is_gone(self):
        return self.end().state == "gone"

    def act(self):
        if not self.is_gone():
            if self.left:
                count = self.world.call(self.side, "write", self.handle, self.left[:self.step])
                del self.left[:count]
            elif not self.closed:
                self.world.call(self.side, "close", self.handle)
                self.closed = True
        if self.end().inbox.ready > 0:
            self.read.extend(self.world.call(self.side, "read", self.handle, 10 ** 6))


class SettledTest(unittest.TestCase):
    def offsets(self, world):
        found = []
        for station in world.stations:
            for handle, end in station._connections.items():
                if end.state == "open":
                    found.append((handle, end.una, end.top, end.inbox.next_offset, end.inbox.read_offset))
        return found

    def test_when_the_users_call_nothing_any_more(self):
        for seed in range(30):
            world, users, _ = drawn_world(seed, barred=("resize", "unlisten"))
            for side in (0, 1):
                if world.stations[side].down:
                    world.call(side, "start")
            world.advance(3000)
            users.look()
            open_ends = 0
            for station in world.stations:
                for end in station._connections.values():
                    self.assertIn(end.state, ("open", "gone"), seed)
                    open_ends += end.state == "open"
            for (side, mark), end in users.seen.items():
                if end in world.stations[side]._connections.values() and end.state == "open":
                    peer = users.seen.get((1 - side, end.peer_mark))
                    self.assertEqual(end.una, end.top, seed)
                    self.assertTrue(end.top >= end.outbox.end or peer.inbox.ready > 0, seed)
            before = self.offsets(world)
            world.advance(300)
            self.assertEqual((self.offsets(world), len(before)), (before, open_ends), seed)

    def test_the_net_loses_finitely_often(self):
        world = open_world(Settings(tries=60, low=20), plans=[[()] * 7, [()] * 7])
        world.call(0, "write", 1, [1, 2, 3])
        world.run(2000)
        self.assertEqual((world.quiet, world.call(1, "read", 1, 9)), (True, (1, 2, 3)))


class SeekTest(unittest.TestCase):
    def test_a_search_finds_what_the_path_carries(self):
        for girth in (4, 5, 7, 11, 12, 20):
            for told in (12, 9):
                first = Settings(seek=True, piece=12, low=20, outbox=64)
                world = open_world(first, first.changed(piece=told, seek=False), girth=girth)
                end = world.stations[0].connection(1)
                for _ in range(400):
                    if end.una == end.outbox.end and end.older == end.una:
                        world.call(0, "write", 1, [7] * max(1, end.finder.trial()))
                    world.call(1, "read", 1, 1000)
                    world.advance()
                self.assertEqual((end.finder.size, end.finder.trial()), (min(girth, told), 0))


class RepeatedTest(unittest.TestCase):
    def test_the_same_calls_lead_to_the_same_world(self):
        for seed in range(5):
            found = []
            for _ in range(2):
                world, _, _ = drawn_world(seed)
                found.append((world.trace(0), world.trace(1), world.ledger()))
            self.assertEqual(found[0], found[1])

    def test_no_mark_is_given_twice(self):
        for seed in range(40):
            world, _, _ = drawn_world(seed)
            for side in (0, 1):
                opened = {}
                for kind, segment in segments(world.trace(side)):
                    if kind == "out" and "S" in segment.flags:
                        opened.setdefault(segment.mark, []).append((segment.source, segment.target, segment.seq))
                for rows in opened.values():
                    self.assertEqual(len(set(rows)), 1)


if __name__ == "__main__":
    unittest.main()
