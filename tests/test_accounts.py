"""The ledger of a world: what was written and read on each connection that a user was handed."""

import unittest

from lossway.errors import Broken
from lossway.settings import Settings
from lossway.world import World
from tests.values import caught
from tests.worlds import open_world

MARK = 65537


class LedgerTest(unittest.TestCase):
    def test_what_was_written_and_read(self):
        world = open_world()
        self.assertEqual(world.ledger(), [(0, MARK, MARK, (), ()), (1, MARK, MARK, (), ())])
        world.call(0, "write", 1, [1, 2])
        world.call(0, "urge", 1, (3,))
        world.call(1, "write", 1, [9])
        self.assertEqual(world.ledger(), [(0, MARK, MARK, (1, 2, 3), ()), (1, MARK, MARK, (9,), ())])
        world.run(50)
        self.assertEqual(world.call(1, "read", 1, 2), (1, 2))
        self.assertEqual(world.ledger()[1], (1, MARK, MARK, (9,), (1, 2)))
        world.call(1, "read", 1, 9)
        world.call(1, "read", 1, 9)
        world.call(0, "read", 1, 9)
        self.assertEqual(world.ledger(), [(0, MARK, MARK, (1, 2, 3), (9,)), (1, MARK, MARK, (9,), (1, 2, 3))])

    def test_only_bytes_that_were_accepted(self):
        world = open_world(Settings(outbox=4))
        self.assertEqual(world.call(0, "write", 1, [1, 2, 3, 4, 5, 6]), 4)
        self.assertEqual(world.call(0, "urge", 1, [7]), 0)
        self.assertEqual(world.ledger()[0][3], (1, 2, 3, 4))
        world.run(50)
        self.assertEqual(world.call(0, "urge", 1, [7, 8, 9, 10, 11]), 4)
        self.assertEqual(world.ledger()[0][3], (1, 2, 3, 4, 7, 8, 9, 10))

    def test_a_peer_that_is_not_known_yet(self):
        world = World(Settings(), Settings())
        world.call(1, "listen", 80)
        world.call(0, "connect", 80)
        world.call(0, "write", 1, [5])
        self.assertEqual(world.ledger(), [(0, MARK, None, (5,), ())])
        world.advance(2)
        self.assertEqual(world.ledger(), [(0, MARK, MARK, (5,), ())])

    def test_rows_stand_in_the_order_of_handing(self):
        world = World(Settings(), Settings())
        world.call(1, "listen", 80, backlog=5)
        world.call(0, "listen", 80)
        world.call(0, "connect", 80)
        world.call(1, "connect", 80)
        world.call(0, "connect", 80)
        world.advance(4)
        world.call(1, "accept", 80)
        self.assertIsNotNone(world.call(0, "accept", 80))
        world.call(1, "accept", 80)
        self.assertIsNone(world.call(1, "accept", 80))
        rows = [(side, mark - MARK, peer - MARK) for side, mark, peer, _, _ in world.ledger()]
        self.assertEqual(rows, [(0, 0, 1), (1, 0, 2), (0, 1, 2), (1, 1, 0), (0, 2, 0), (1, 2, 1)])

    def test_connections_that_no_user_has_are_not_in_it(self):
        world = World(Settings(), Settings())
        world.call(1, "listen", 80)
        world.call(0, "connect", 80)
        world.advance(5)
        self.assertEqual([row[0] for row in world.ledger()], [0])

    def test_rows_stay_when_a_connection_is_gone_and_forgotten(self):
        world = open_world()
        world.call(0, "write", 1, [1])
        world.advance()
        world.call(1, "read", 1, 5)
        before = world.ledger()
        world.call(0, "abort", 1)
        world.advance()
        self.assertEqual(world.ledger(), before)
        world.call(0, "forget", 1)
        world.call(1, "forget", 1)
        self.assertEqual(world.ledger(), before)
        self.assertEqual(before, [(0, MARK, MARK, (1,), ()), (1, MARK, MARK, (), (1,))])

    def test_bytes_that_are_read_when_a_connection_is_gone(self):
        world = open_world()
        world.call(0, "write", 1, [1, 2])
        world.advance()
        world.call(0, "abort", 1)
        world.advance()
        self.assertEqual(world.call(1, "read", 1, 9), (1, 2))
        self.assertEqual(world.ledger()[1][4], (1, 2))
        caught(Broken, world.call, 1, "read", 1, 9)
        caught(Broken, world.call, 1, "write", 1, [3])
        self.assertEqual(world.ledger(), [(0, MARK, MARK, (1, 2), ()), (1, MARK, MARK, (), (1, 2))])

    def test_rows_stay_when_a_station_crashes(self):
        world = open_world()
        world.call(0, "write", 1, [1])
        world.advance()
        world.call(1, "read", 1, 5)
        before = world.ledger()
        world.call(0, "crash")
        world.call(1, "crash")
        self.assertEqual(world.ledger(), before)
        world.call(0, "start")
        world.call(1, "start")
        world.advance(3)
        self.assertEqual(world.ledger(), before)
        world.call(1, "listen", 80)
        self.assertEqual(world.call(0, "connect", 80), 2)
        world.advance(3)
        self.assertEqual(world.call(1, "accept", 80), 2)
        world.call(0, "write", 2, [7])
        self.assertEqual(world.ledger(), [*before, (0, 2 * MARK - 1, 2 * MARK - 1, (7,), ()),
                                          (1, 2 * MARK - 1, 2 * MARK - 1, (), ())])

    def test_a_peer_that_was_unknown_at_the_crash_stays_so(self):
        world = World(Settings(), Settings())
        world.call(1, "listen", 80)
        world.call(0, "connect", 80)
        world.call(0, "crash")
        world.advance(5)
        self.assertEqual(world.ledger(), [(0, MARK, None, (), ())])

    def test_a_ledger_is_fresh(self):
        world = open_world()
        data = [1, 2]
        world.call(0, "write", 1, data)
        data[0] = 9
        found = world.ledger()
        found[0] = 5
        found.append(6)
        self.assertEqual(world.ledger(), [(0, MARK, MARK, (1, 2), ()), (1, MARK, MARK, (), ())])
        for row in world.ledger():
            self.assertIsInstance(row, tuple)
            self.assertIsInstance(row[3], tuple)
            self.assertIsInstance(row[4], tuple)


if __name__ == "__main__":
    unittest.main()
