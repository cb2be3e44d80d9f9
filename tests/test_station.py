"""lossway.station: promises 54 to 59 and 62."""

import unittest

from lossway.connection import Connection
from lossway.errors import (
    Broken, InvalidNumber, InvalidSetting, NoConnection, NoListener, NotAllowed, PortTaken, StationDown, TooMany,
)
from lossway.segments import Segment
from lossway.settings import Settings
from lossway.station import Station
from lossway.words import pack, unpack
from tests.pairs import Pair
from tests.values import NOT_INTEGERS, NOT_SEQUENCES, caught

WRONG_PORTS = (0, -1, 65536, 10 ** 12, *NOT_INTEGERS)


def sent(station):
    return [unpack(words) for words in station.drain()]


def opening(port=80, source=5, mark=900, **fields):
    return pack(Segment(source, port, mark=mark, flags="S", **{"seq": 30, "window": 64, "piece": 8, **fields}))


def reply(segment, flags="A", **fields):
    """What a peer sends that got this answer to its opening."""
    return pack(Segment(segment.target, segment.source, tag=segment.mark, mark=segment.tag, flags=flags,
                        **{"seq": segment.ack, "ack": (segment.seq + 1) % 1024, "window": 64, **fields}))


def served(station, port=80, source=5, mark=900):
    """Let a peer open a connection to a listener, and return the handle."""
    station.drain()
    assert station.deliver(opening(port, source, mark)) == "queued"
    assert station.deliver(reply(sent(station)[0])) == "taken"
    return station.accept(port)


def reset_of(station, handle):
    """The words by which the peer of a connection resets it."""
    connection = station.connection(handle)
    tag, mark = connection.mark, connection.peer_mark or 0
    return pack(Segment(connection.target, connection.source, tag=tag, mark=mark, flags="R"))


def look(station):
    """All that can be asked a station that is up."""
    rows = []
    for handle in station.handles():
        rows.append((handle, station.status(handle), station.connection(handle).alarms.due(10 ** 9)))
    return (station.era, station.now, station.used, station.down, rows)


class BeginTest(unittest.TestCase):
    def test_a_new_station(self):
        settings = Settings(piece=6)
        station = Station(settings)
        self.assertEqual((station.settings, station.era, station.now, station.used), (settings, 1, 0, 0))
        self.assertIs(station.down, False)
        self.assertEqual((station.handles(), station.drain()), ([], []))
        self.assertEqual([Station(settings, era=era).era for era in (1, 65535)], [1, 65535])

    def test_wrong_arguments(self):
        for settings in (None, {}, (), Settings, Settings().row(), 5, "Settings"):
            self.assertEqual(caught(InvalidSetting, Station, settings), {"setting": "settings"})
            self.assertEqual(caught(InvalidSetting, Station, settings, era=0), {"setting": "settings"})
        for era in (0, -1, 65536, *NOT_INTEGERS):
            self.assertEqual(caught(InvalidSetting, Station, Settings(), era=era), {"setting": "era"})


class ListenTest(unittest.TestCase):
    def test_listen(self):
        station = Station(Settings())
        for port, backlog in ((1, 0), (65535, 1000), (80, 2)):
            self.assertIsNone(station.listen(port, backlog=backlog))
            self.assertIsNone(station.accept(port))

    def test_wrong_arguments(self):
        station = Station(Settings())
        station.listen(80)
        for port in WRONG_PORTS:
            self.assertIs(caught(InvalidNumber, station.listen, port)["number"], port)
            self.assertIs(caught(InvalidNumber, station.listen, port, backlog=-1)["number"], port)
        for backlog in (-1, 1001, *NOT_INTEGERS):
            self.assertEqual(caught(InvalidSetting, station.listen, 81, backlog=backlog), {"setting": "backlog"})
            self.assertEqual(caught(InvalidSetting, station.listen, 80, backlog=backlog), {"setting": "backlog"})
        self.assertEqual(caught(PortTaken, station.listen, 80), {"port": 80})
        self.assertEqual(caught(NoListener, station.accept, 81), {"port": 81})

    def test_a_port_may_be_used_by_connections(self):
        station = Station(Settings())
        station.connect(7, source=80)
        station.listen(80)
        station.listen(7)
        self.assertEqual(caught(PortTaken, station.listen, 7), {"port": 7})

    def test_unlisten(self):
        station = Station(Settings())
        station.listen(80, backlog=5)
        taken = served(station)
        for mark in (901, 902, 903):
            station.deliver(opening(source=mark, mark=mark))
        first, second, third = sent(station)
        station.deliver(reply(second))
        self.assertIsNone(station.unlisten(80))
        rows = [(segment.flags, segment.tag, segment.mark) for segment in sent(station)]
        self.assertEqual(rows, [("AR", 901, first.mark), ("AR", 902, second.mark), ("AR", 903, third.mark)])
        self.assertEqual((station.handles(), station.status(taken)["state"]), ([taken], "open"))
        self.assertEqual(caught(NoListener, station.unlisten, 80), {"port": 80})
        self.assertEqual(station.deliver(opening(source=8)), "refused")
        station.drain()
        station.listen(80)
        self.assertIsNone(station.accept(80))
        self.assertEqual(station.deliver(reply(third)), "refused")

    def test_calls_with_the_port_of_a_listener(self):
        station = Station(Settings())
        station.listen(80)
        for port in (81, *WRONG_PORTS):
            for call in (station.unlisten, station.accept):
                self.assertIs(caught(NoListener, call, port)["port"], port)
        station.unlisten(80)
        for call in (station.unlisten, station.accept):
            self.assertEqual(caught(NoListener, call, 80), {"port": 80})


class ConnectTest(unittest.TestCase):
    def test_connect(self):
        station = Station(Settings(piece=6, inbox=20))
        self.assertEqual(station.connect(80), 1)
        mark = 65537
        first = 31 * mark % 1024
        self.assertEqual(sent(station), [Segment(40000, 80, mark=mark, flags="S", seq=first, window=20, piece=6)])
        connection = station.connection(1)
        self.assertIsInstance(connection, Connection)
        self.assertEqual((connection.mark, connection.first, connection.settings), (mark, first, station.settings))

    def test_marks_and_first_numbers(self):
        for era, size in ((1, 1024), (65535, 4294967296), (3, 64)):
            station = Station(Settings(size=size, inbox=16), era=era)
            for count in range(1, 5):
                station.advance()
                handle = station.connect(80)
                connection = station.connection(handle)
                mark = era * 65536 + count
                self.assertEqual((handle, connection.mark, station.used), (count, mark, count))
                self.assertEqual(connection.first, (7 * count + 31 * mark) % size)

    def test_a_passed_first_number(self):
        station = Station(Settings())
        for first in (0, 1023, 7):
            self.assertEqual(station.connection(station.connect(80, first=first)).first, first)
        self.assertEqual(station.used, 3)

    def test_the_source_that_is_chosen(self):
        station = Station(Settings())
        sources = []

        def connect(target):
            handle = station.connect(target)
            sources.append(station.connection(handle).source)
            return handle

        first, second = connect(80), connect(80)
        connect(81)
        station.listen(40002)
        connect(80)
        station.abort(first)
        connect(80)
        station.forget(first)
        station.abort(second)
        connect(80)
        station.unlisten(40002)
        connect(80)
        self.assertEqual(sources, [40000, 40001, 40000, 40003, 40000, 40001, 40002])

    def test_the_source_of_a_connection_that_rests_is_free(self):
        pair = Pair(Settings(rest=500))
        client, server = pair.open()
        pair.call(0, "close", client)
        pair.advance(4)
        pair.call(1, "close", server)
        pair.advance(4)
        self.assertEqual(pair.connection(0, client).state, "resting")
        again = pair.call(0, "connect", 80)
        self.assertEqual(pair.connection(0, again).source, 40000)

    def test_a_passed_source(self):
        station = Station(Settings())
        station.listen(7)
        handle = station.connect(80, source=7)
        self.assertEqual(caught(PortTaken, station.connect, 80, source=7), {"port": 7})
        self.assertEqual(station.connect(81, source=7), 2)
        self.assertEqual(station.connect(80, source=40000), 3)
        self.assertEqual(station.connection(station.connect(80)).source, 40001)
        station.abort(handle)
        self.assertEqual(station.connect(80, source=7), 5)

    def test_a_pair_is_busy_in_three_states(self):
        for state in ("opening", "answering", "open", "resting", "gone"):
            busy = state not in ("resting", "gone")
            station = Station(Settings())
            station.connection(station.connect(80, source=7)).state = state
            if busy:
                self.assertEqual(caught(PortTaken, station.connect, 80, source=7), {"port": 7})
            else:
                self.assertEqual(station.connect(80, source=7), 2)

    def test_a_connection_that_waits_makes_its_pair_busy(self):
        station = Station(Settings())
        station.listen(80)
        station.deliver(opening(source=5))
        self.assertEqual(caught(PortTaken, station.connect, 5, source=80), {"port": 80})

    def test_wrong_arguments(self):
        station = Station(Settings())
        station.connect(80, source=7)
        before = look(station)
        for target in WRONG_PORTS:
            self.assertIs(caught(InvalidNumber, station.connect, target, source=0, first=-1)["number"], target)
        for source in (0, -1, 65536, *[value for value in NOT_INTEGERS if value is not None]):
            self.assertIs(caught(InvalidNumber, station.connect, 80, source=source, first=-1)["number"], source)
        for first in (-1, 1024, 10 ** 12, *[value for value in NOT_INTEGERS if value is not None]):
            self.assertIs(caught(InvalidNumber, station.connect, 80, source=7, first=first)["number"], first)
        self.assertEqual(look(station), before)

    def test_the_last_mark(self):
        station = Station(Settings())
        station.used = 65534
        station.connect(80, source=7)
        before = look(station)
        self.assertEqual(station.connection(1).mark, 131071)
        self.assertEqual(caught(TooMany, station.connect, 80), {"most": 65535})
        self.assertEqual(caught(TooMany, station.connect, 80, source=8, first=5), {"most": 65535})
        self.assertEqual(caught(PortTaken, station.connect, 80, source=7), {"port": 7})
        self.assertEqual(caught(InvalidNumber, station.connect, 80, source=7, first=-1), {"number": -1})
        self.assertEqual(look(station), before)
        self.assertEqual(len(station.drain()), 1)


class AcceptTest(unittest.TestCase):
    def test_the_order_in_which_they_became_ready(self):
        station = Station(Settings())
        station.listen(80, backlog=9)
        for mark in (901, 902, 903, 904):
            self.assertEqual(station.deliver(opening(source=mark, mark=mark)), "queued")
        self.assertIsNone(station.accept(80))
        first, second, third, _ = sent(station)
        for segment in (second, third, first):
            station.deliver(reply(segment))
        self.assertEqual([station.accept(80) for _ in range(5)], [2, 3, 1, None, None])
        self.assertEqual(station.handles(), [1, 2, 3])

    def test_a_connection_that_is_gone_is_not_accepted(self):
        station = Station(Settings())
        station.listen(80, backlog=9)
        for mark in (901, 902):
            station.deliver(opening(source=mark, mark=mark))
        first, second = sent(station)
        station.deliver(reply(first))
        station.deliver(reply(second))
        station.deliver(reply(first, "AR"))
        self.assertEqual([station.accept(80), station.accept(80)], [2, None])

    def test_a_connection_that_still_answers_is_not_ready(self):
        station = Station(Settings())
        station.listen(80)
        station.deliver(opening())
        answer, = sent(station)
        self.assertEqual((station.deliver(opening()), station.accept(80)), ("taken", None))
        self.assertEqual((station.deliver(reply(answer, "")), station.accept(80)), ("taken", None))
        self.assertEqual((station.deliver(reply(answer)), station.deliver(reply(answer))), ("taken", "taken"))
        self.assertEqual((station.accept(80), station.accept(80)), (1, None))

    def test_what_is_gone_leaves_its_own_listener(self):
        station = Station(Settings())
        station.listen(80, backlog=1)
        station.listen(81, backlog=1)
        station.deliver(opening(port=80))
        station.deliver(opening(port=81))
        first, second = sent(station)
        station.deliver(reply(first, "AR"))
        station.deliver(reply(second))
        self.assertEqual((station.accept(80), station.accept(81)), (None, 2))
        self.assertEqual(station.deliver(opening(port=80)), "queued")

    def test_each_listener_has_its_own(self):
        station = Station(Settings())
        station.listen(80)
        station.listen(81)
        self.assertEqual(station.deliver(opening(port=81)), "queued")
        station.deliver(reply(sent(station)[0]))
        self.assertEqual((station.accept(80), station.accept(81)), (None, 1))

    def test_connections_that_the_user_opened_are_not_accepted(self):
        station = Station(Settings())
        station.listen(80)
        station.connect(5, source=80)
        segment, = sent(station)
        station.deliver(pack(Segment(5, 80, mark=900, flags="S", seq=3)))
        self.assertEqual(station.connection(1).state, "answering")
        station.deliver(pack(Segment(5, 80, tag=segment.mark, mark=900, flags="SA", seq=3, ack=segment.seq + 1)))
        self.assertEqual((station.connection(1).state, station.accept(80)), ("open", None))

    def test_connections_that_cross_need_no_listener(self):
        station = Station(Settings())
        station.connect(5, source=80)
        segment, = sent(station)
        self.assertEqual(station.deliver(pack(Segment(5, 80, mark=900, flags="S", seq=3))), "taken")
        self.assertEqual(station.connection(1).state, "answering")
        words = pack(Segment(5, 80, tag=segment.mark, mark=900, flags="SA", seq=3, ack=segment.seq + 1))
        self.assertEqual((station.deliver(words), station.status(1)["state"]), ("taken", "open"))


class UserCallsTest(unittest.TestCase):
    def test_they_are_passed_on(self):
        pair = Pair(Settings())
        client, server = pair.open()
        self.assertEqual(pair.call(0, "write", client, [1, 2, 3]), 3)
        self.assertEqual(pair.call(0, "urge", client, (4, 5)), 2)
        pair.advance(3)
        self.assertEqual(pair.stations[1].status(server)["urgent"], 5)
        self.assertEqual(pair.call(1, "read", server, 4), (1, 2, 3, 4))
        self.assertIsNone(pair.call(1, "resize", server, 100))
        self.assertEqual(pair.connection(1, server).inbox.limit, 100)
        self.assertIsNone(pair.call(0, "close", client))
        self.assertIs(pair.connection(0, client).outbox.closed, True)
        self.assertIsNone(pair.call(1, "abort", server))
        self.assertEqual(pair.connection(1, server).reason, "aborted")
        pair.advance(2)
        self.assertEqual(pair.connection(0, client).reason, "reset")

    def test_what_they_send_can_be_drained_at_once(self):
        for name, values, flags in (
            ("write", ([1],), ["A"]), ("urge", ([1],), ["AU"]), ("close", (), ["AF"]), ("abort", (), ["AR"]),
            ("resize", (1,), ["A"]), ("read", (40,), ["A"]),
        ):
            station = Station(Settings(delay=0))
            station.listen(80)
            handle = served(station)
            connection = station.connection(handle)
            words = pack(Segment(5, 80, tag=connection.mark, mark=900, flags="A", seq=31, window=64, data=[7] * 40,
                                 ack=(connection.first + 1) % 1024))
            station.deliver(words)
            station.drain()
            getattr(station, name)(handle, *values)
            self.assertEqual([segment.flags for segment in sent(station)], flags, name)

    def test_the_time_is_that_of_the_station(self):
        station = Station(Settings())
        for _ in range(20):
            station.advance()
        handle = station.connect(80)
        self.assertEqual((station.connection(handle).timed_at, station.connection(handle).period), (20, 2))
        for _ in range(7):
            station.advance()
        station.write(handle, [1])
        self.assertEqual(station.connection(handle).period, 3)

    def test_errors_pass(self):
        station = Station(Settings())
        handle = station.connect(80)
        for value in (-1, True, None):
            self.assertEqual(caught(InvalidNumber, station.read, handle, value), {"number": value})
        for value in NOT_SEQUENCES:
            self.assertIs(caught(InvalidNumber, station.write, handle, value)["number"], value)
            self.assertIs(caught(InvalidNumber, station.urge, handle, value)["number"], value)
        self.assertEqual(caught(InvalidSetting, station.resize, handle, 257), {"setting": "limit"})
        station.close(handle)
        self.assertEqual(caught(NotAllowed, station.write, handle, [1]), {"state": "closed"})
        station.abort(handle)
        for call, value in ((station.write, 5), (station.urge, 5), (station.resize, 0), (station.read, 1)):
            self.assertEqual(caught(Broken, call, handle, value), {"reason": "aborted"})
        for call in (station.close, station.abort):
            self.assertIsNone(call(handle))

    def test_a_call_that_raises_changes_nothing(self):
        station = Station(Settings())
        handle = station.connect(80)
        before = look(station)
        for call, value in ((station.write, None), (station.urge, [256]), (station.read, -1), (station.resize, 0)):
            with self.assertRaises((InvalidNumber, InvalidSetting)):
                call(handle, value)
        self.assertEqual(caught(NotAllowed, station.forget, handle), {"state": "opening"})
        self.assertEqual((look(station), len(station.drain())), (before, 1))

    def test_a_value_that_is_no_handle(self):
        station = Station(Settings())
        station.listen(80)
        handle = station.connect(80)
        station.deliver(opening())
        calls = (
            lambda value: station.write(value, None), lambda value: station.urge(value, [1]), station.close,
            station.abort, lambda value: station.read(value, -1), lambda value: station.resize(value, 0),
            station.forget,
            station.connection, station.status,
        )
        before = look(station)
        for call in calls:
            # The handle 2 waits at a listener and was not handed to the user.
            for value in (0, -1, 2, 3, 10 ** 12, *NOT_INTEGERS):
                self.assertIs(caught(NoConnection, call, value)["handle"], value)
        self.assertEqual(look(station), before)
        self.assertEqual(station.handles(), [handle])


class ForgetTest(unittest.TestCase):
    def test_forget(self):
        for state in ("opening", "answering", "open", "resting"):
            station = Station(Settings())
            handle = station.connect(80)
            station.connection(handle).state = state
            self.assertEqual(caught(NotAllowed, station.forget, handle), {"state": state})
            station.connection(handle).state = "opening"
            station.abort(handle)
            self.assertEqual(station.handles(), [handle])
            self.assertIsNone(station.forget(handle))
            self.assertEqual(station.handles(), [])
            self.assertEqual(caught(NoConnection, station.forget, handle), {"handle": handle})
            self.assertEqual(station.connect(80), 2)

    def test_a_user_keeps_what_is_gone(self):
        station = Station(Settings())
        station.listen(80)
        handle = served(station)
        station.deliver(reset_of(station, handle))
        for _ in range(3):
            station.advance()
        self.assertEqual((station.handles(), station.status(handle)["reason"]), ([handle], "reset"))

    def test_what_was_not_handed_to_the_user_is_forgotten(self):
        station = Station(Settings(tries=1))
        station.listen(80, backlog=1)
        # By a segment of the peer.
        station.deliver(opening())
        answer, = sent(station)
        self.assertEqual(station.deliver(reply(answer, "AR")), "taken")
        self.assertEqual(station.deliver(reply(answer, "AR")), "ignored")
        # By the time.
        self.assertEqual(station.deliver(opening()), "queued")
        answer, = sent(station)
        for _ in range(30):
            station.advance()
        self.assertEqual([segment.flags for segment in sent(station)], ["SA", "AR"])
        self.assertEqual(station.deliver(reply(answer)), "refused")
        # By a call.
        self.assertEqual(station.deliver(opening()), "queued")
        station.drain()
        station.unlisten(80)
        self.assertEqual([segment.flags for segment in sent(station)], ["AR"])
        station.listen(80)
        self.assertEqual((station.handles(), station.connect(80)), ([], 4))


class StatusTest(unittest.TestCase):
    def test_handles(self):
        station = Station(Settings())
        station.listen(80, backlog=3)
        for mark in (901, 902):
            station.deliver(opening(source=mark, mark=mark))
        first, second = sent(station)
        third = station.connect(80)
        station.deliver(reply(second))
        station.deliver(reply(first))
        self.assertEqual((station.accept(80), station.handles()), (2, [2, third]))
        self.assertEqual((station.accept(80), station.handles()), (1, [1, 2, 3]))
        station.handles().clear()
        self.assertEqual(station.handles(), [1, 2, 3])

    def test_status(self):
        pair = Pair(Settings(outbox=30))
        pair.call(1, "listen", 80)
        client = pair.call(0, "connect", 80)
        self.assertEqual(list(pair.call(0, "status", client).items()), [
            ("state", "opening"), ("reason", ""), ("ready", 0), ("urgent", 0), ("unsent", 0), ("confirmed", 0),
            ("window", 0),
        ])
        pair.call(0, "write", client, [1] * 20)
        self.assertEqual(pair.call(0, "status", client)["unsent"], 20)
        pair.advance(2)
        status = pair.call(0, "status", client)
        self.assertEqual((status["state"], status["unsent"], status["confirmed"], status["window"]), ("open", 4, 0, 16))
        pair.advance()
        server = pair.call(1, "accept", 80)
        status = pair.call(1, "status", server)
        self.assertEqual((status["ready"], status["urgent"], status["window"]), (16, 0, 16))
        pair.call(0, "urge", client, [1])
        pair.call(0, "close", client)
        pair.advance(20)
        status = pair.call(0, "status", client)
        self.assertEqual((status["unsent"], status["confirmed"]), (0, 21))
        self.assertEqual(pair.call(1, "status", server)["urgent"], 21)
        pair.call(1, "abort", server)
        self.assertEqual(pair.call(1, "status", server)["reason"], "aborted")

    def test_the_dict_is_fresh(self):
        station = Station(Settings())
        handle = station.connect(80)
        station.status(handle).clear()
        self.assertEqual(len(station.status(handle)), 7)


class DrainTest(unittest.TestCase):
    def test_drain(self):
        station = Station(Settings())
        station.connect(80)
        station.connect(81)
        found = station.drain()
        self.assertEqual([(words.__class__, words[1]) for words in found], [(list, 80), (list, 81)])
        found.append(5)
        self.assertEqual(station.drain(), [])

    def test_the_order(self):
        station = Station(Settings())
        for target in (80, 81, 82):
            station.connect(target)
        station.drain()
        for _ in range(8):
            station.advance()
        self.assertEqual([words[1] for words in station.drain()], [80, 81, 82])


class CrashTest(unittest.TestCase):
    def test_calls_of_a_station_that_is_down(self):
        station = Station(Settings())
        station.listen(80)
        handle = station.connect(80)
        self.assertIsNone(station.crash())
        for name, values in (
            ("listen", (0,)), ("unlisten", (80,)), ("connect", (0,)), ("accept", (80,)), ("write", (handle, None)),
            ("urge", (9, [1])), ("read", (handle, -1)), ("close", (handle,)), ("abort", (9,)), ("resize", (handle, 0)),
            ("forget", (9,)), ("connection", (handle,)), ("handles", ()), ("status", (handle,)), ("crash", ()),
        ):
            self.assertEqual(caught(StationDown, getattr(station, name), *values), {}, name)
        self.assertEqual((station.down, station.drain(), station.deliver(opening())), (True, [], "ignored"))

    def test_what_is_lost_and_what_is_kept(self):
        station = Station(Settings(), era=4)
        station.listen(80)
        station.connect(80)
        served(station)
        station.advance()
        station.connect(81)
        station.crash()
        self.assertEqual((station.era, station.now, station.used, station.down), (4, 1, 3, True))
        self.assertIs(station.down, True)
        station.advance()
        self.assertIsNone(station.start())
        self.assertEqual((station.era, station.now, station.used, station.down), (5, 2, 0, False))
        self.assertEqual((station.handles(), station.drain(), station.settings), ([], [], Settings()))
        self.assertEqual(caught(NoListener, station.accept, 80), {"port": 80})
        for handle in (1, 2, 3):
            self.assertEqual(caught(NoConnection, station.status, handle), {"handle": handle})
        handle = station.connect(80)
        connection = station.connection(handle)
        self.assertEqual((handle, connection.mark, connection.source), (4, 5 * 65536 + 1, 40000))

    def test_the_time_goes_on(self):
        station = Station(Settings())
        handle = station.connect(80)
        station.drain()
        station.crash()
        for _ in range(30):
            self.assertIsNone(station.advance())
        self.assertEqual((station.now, station.drain()), (30, []))
        station.start()
        station.advance()
        self.assertEqual((station.now, station.drain(), station.handles()), (31, [], []))
        self.assertEqual(handle, 1)

    def test_start(self):
        station = Station(Settings(), era=65534)
        self.assertEqual(caught(NotAllowed, station.start), {"state": "up"})
        station.crash()
        station.start()
        self.assertEqual((station.era, caught(NotAllowed, station.start)), (65535, {"state": "up"}))
        station.connect(80)
        station.crash()
        self.assertEqual(caught(TooMany, station.start), {"most": 65535})
        self.assertEqual((station.era, station.used, station.down), (65535, 1, True))
        self.assertEqual(caught(StationDown, station.crash), {})

    def test_no_mark_is_given_twice(self):
        station = Station(Settings())
        marks = []
        for _ in range(4):
            for _ in range(3):
                marks.append(station.connection(station.connect(80)).mark)
            station.crash()
            station.start()
        self.assertEqual(len(set(marks)), 12)


class AdvanceTest(unittest.TestCase):
    def test_advance(self):
        station = Station(Settings())
        first, second = station.connect(80), station.connect(81)
        station.abort(first)
        station.drain()
        for now in range(1, 9):
            self.assertIsNone(station.advance())
            self.assertEqual(station.now, now)
        self.assertEqual([segment.target for segment in sent(station)], [81])
        self.assertEqual(station.connection(first).period, 0)
        station.advance()
        self.assertEqual((station.connection(first).period, station.connection(second).period), (0, 1))


if __name__ == "__main__":
    unittest.main()
