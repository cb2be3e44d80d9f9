"""The comparison of two stations: parting runs, and the search of all standings."""

import copy
import itertools
import unittest
from random import Random

from lossway.compare import alike, is_parting, parting
from lossway.errors import InvalidNumber, InvalidSetting, InvalidTrace, LossError, TooMany
from lossway.segments import Segment
from lossway.settings import Settings
from lossway.station import Station
from lossway.words import pack
from tests.values import NOT_INTEGERS, NOT_SEQUENCES, NOT_STRINGS, caught
from tests.worlds import CONTROLS, drawn_settings

TICK = ("tick",)
LISTEN = ("call", "listen", (80,), ())
UNLISTEN = ("call", "unlisten", (80,), ())
CONNECT = ("call", "connect", (80,), ())
WRITE = ("call", "write", (1, (1, 2, 3)), ())
READ = ("call", "read", (1, 2), ())
CLOSE = ("call", "close", (1,), ())
ABORT = ("call", "abort", (1,), ())
FORGET = ("call", "forget", (1,), ())
ACCEPT = ("call", "accept", (80,), ())
CRASH = ("call", "crash", (), ())
START = ("call", "start", (), ())
MARK, PEER = 65537, 9
COOKIE = (MARK, 31, 0, 8, PEER, 50)
CALLED = Segment(7, 80, mark=PEER, flags="S", seq=50, window=20, piece=8)
ANSWERED = Segment(80, 40000, tag=MARK, mark=PEER, flags="SA", seq=50, ack=32, window=20, piece=8)
BYTES = Segment(80, 40000, tag=MARK, mark=PEER, flags="A", seq=51, ack=32, window=20, data=[5, 6])
AHEAD = BYTES.changed(seq=55)
THIRD = Segment(7, 80, tag=MARK, mark=PEER, flags="A", seq=51, ack=32, window=20)


def comes(segment):
    return ("in", tuple(pack(segment)))


CLIENT = (TICK, WRITE, READ, CLOSE, ABORT, comes(BYTES), comes(AHEAD), FORGET, ("call", "resize", (1, 3), ()),
          ("call", "urge", (1, (4, 5)), ()), comes(BYTES.changed(flags="AF")), CRASH)
SERVER = (TICK, ACCEPT, WRITE, READ, CLOSE, UNLISTEN, comes(THIRD), START)


def drawn_case(random, size):
    """Two settings, and a menu by which an end may be opened and shows, or does not show, in what they differ."""
    first = drawn_settings(random, size, 1, inbox=random.randint(4, 8), rest=3, alive=random.choice((0, 3)))
    other = {
        "delay": ((first.delay + 1) % 4, comes(BYTES)), "tell": (not first.tell, comes(AHEAD)),
        "join": (not first.join, WRITE), "outbox": (random.randint(1, 2), WRITE), "alive": (2, TICK),
        "tries": (9, TICK), "rest": (4, TICK), "fresh": (71, CLOSE), "control": ("fixed", WRITE),
    }
    name = random.choice(["delay", "tell", "join", *other])
    worth, event = other[name]
    return first, first.changed(**{name: worth}), drawn_menu(random, event)


def drawn_menu(random, event):
    if random.random() < 0.6:
        return [CONNECT, comes(ANSWERED), event, random.choice(CLIENT)]
    listen = ("call", "listen", (80,), (("backlog", random.randint(1, 2)),))
    return [listen, comes(CALLED), comes(THIRD.changed(data=(7, 8))), random.choice(SERVER)]


def deep_lists(value):
    return [deep_lists(item) for item in value] if isinstance(value, (list, tuple)) else value


class PartingTest(unittest.TestCase):
    def test_the_first_list(self):
        self.assertEqual(parting(Settings(), Settings(inbox=63), [CONNECT], 1), (0,))
        self.assertEqual(parting(Settings(), Settings(inbox=63), [TICK, LISTEN, CONNECT], 3), (2,))
        self.assertEqual(parting(Settings(), Settings(piece=7), [TICK, CONNECT], 1), (1,))

    def test_a_timeout(self):
        run = (1,) + (0,) * 8
        self.assertEqual(parting(Settings(), Settings(low=3), [TICK, CONNECT], 9), run)
        self.assertIsNone(parting(Settings(), Settings(low=3), [TICK, CONNECT], 8))

    def test_equal_settings(self):
        self.assertIsNone(parting(Settings(), Settings(), [TICK, CONNECT, LISTEN], 6))

    def test_the_least_of_several(self):
        menu = [("call", "connect", (81,), ()), TICK, CONNECT]
        self.assertEqual(parting(Settings(), Settings(inbox=63), menu, 2), (0,))
        # Both orders part, and the first is the lesser one.
        menu = [comes(ANSWERED), CONNECT, ("call", "connect", (80,), (("source", 40000),))]
        self.assertEqual(parting(Settings(), Settings(tries=5, delay=1), menu, 3), None)
        menu = [WRITE, comes(ANSWERED), CONNECT]
        first, second = Settings(), Settings(join=False)
        found = parting(first, second, menu, 4)
        self.assertEqual(found, self.brute(first, second, menu, 4))
        self.assertEqual(found, (2, 0, 1, 0))

    def test_the_depth(self):
        self.assertIsNone(parting(Settings(), Settings(inbox=63), [CONNECT], 0))
        self.assertIsNone(parting(Settings(), Settings(inbox=63), [], 5))
        self.assertIsNone(parting(Settings(), Settings(inbox=63), [], 0))
        self.assertEqual(parting(Settings(), Settings(high=7), [CONNECT, TICK], 14), (0,) + (1,) * 7)

    def test_an_error_in_one_station_alone(self):
        first, second = Settings(size=64, inbox=8), Settings(size=128, inbox=8)
        connect = ("call", "connect", (80,), (("first", 5),))
        menu = [("call", "resize", (1, 20), ()), connect]
        self.assertEqual(parting(first, second, menu, 3), (1, 0))
        self.assertEqual(parting(second, first, menu, 3), (1, 0))
        self.assertIsNone(parting(first, second, [("call", "resize", (1, 16), ()), connect], 3))
        # Both raise an error.
        self.assertIsNone(parting(first, second, [("call", "resize", (1, 33), ()), connect], 3))

    def test_lists_are_compared_and_not_results(self):
        first, second = Settings(outbox=2), Settings(outbox=1)
        # Both write, with unequal results, and nothing is sent as the peer is unknown.
        self.assertIsNone(parting(first, second, [CONNECT, WRITE], 3))
        self.assertIsNotNone(parting(first, second, [CONNECT, WRITE, comes(ANSWERED)], 3))

    def test_cookies_may_be_in_the_menu(self):
        listen = ("call", "listen", (80,), (("backlog", 0),))
        back = comes(THIRD.changed(cookie=COOKIE))
        menu = [TICK, listen, comes(CALLED), back]
        first, second = Settings(fresh=2), Settings(fresh=3)
        run = (0, 0, 0, 1, 2, 3)
        self.assertEqual(parting(first, second, menu, 6), run)
        self.assertIs(is_parting(first, second, menu, run), True)

    def brute(self, first, second, menu, depth):
        for length in range(depth + 1):
            for run in itertools.product(range(len(menu)), repeat=length):
                if is_parting(first, second, menu, run):
                    return run
        return None

    def test_drawn_menus(self):
        parted = 0
        for seed in range(70):
            random = Random(seed)
            first, second, menu = drawn_case(random, 1024)
            depth = random.randint(2, 5)
            found = parting(first, second, menu, depth)
            self.assertEqual(found, self.brute(first, second, menu, depth), seed)
            parted += found is not None and len(found) > 1
        self.assertGreater(parted, 10)

    def test_too_many_runs(self):
        settings = Settings()
        self.assertIsNone(parting(settings, settings, [START] * 20000, 1))
        self.assertEqual(caught(TooMany, parting, settings, settings, [START] * 20001, 1), {"most": 20000})
        self.assertIsNone(parting(settings, settings, [START] * 141, 2))
        self.assertEqual(caught(TooMany, parting, settings, settings, [START] * 142, 2), {"most": 20000})
        self.assertIsNone(parting(settings, settings, [START, UNLISTEN], 14))
        self.assertEqual(caught(TooMany, parting, settings, settings, [START, UNLISTEN], 15), {"most": 20000})
        self.assertEqual(caught(TooMany, parting, settings, settings, [START, UNLISTEN], 1000), {"most": 20000})

    def test_one_event_and_no_event_may_go_deep(self):
        settings = Settings()
        self.assertIsNone(parting(settings, settings, [TICK], 1000))
        self.assertIsNone(parting(settings, settings, [], 1000))
        self.assertIsNone(parting(settings, settings, [START] * 30000, 0))

    def test_the_power_is_looked_at_before_the_stations(self):
        first, second = Settings(), Settings(inbox=63)
        self.assertEqual(caught(TooMany, parting, first, second, [CONNECT] * 142, 2), {"most": 20000})


class IsPartingTest(unittest.TestCase):
    def test_runs(self):
        first, second, menu = Settings(), Settings(inbox=63), [TICK, CONNECT]
        for run, due in (((), False), ((0,), False), ((1,), True), ((0, 1), True), ((1, 0), False), ((1, 1), False),
                         ((0, 0, 0, 1), True), ([0, 1], True)):
            self.assertIs(is_parting(first, second, menu, run), due, run)

    def test_deep_runs(self):
        self.assertIs(is_parting(Settings(), Settings(low=3), (TICK, CONNECT), (1,) + (0,) * 8), True)
        self.assertIs(is_parting(Settings(), Settings(low=3), (TICK, CONNECT), (0,) * 500 + (1,) + (0,) * 8), True)
        self.assertIs(is_parting(Settings(), Settings(), (TICK, CONNECT), (1,) + (0,) * 8), False)

    def test_wrong_runs(self):
        menu = [TICK, CONNECT]
        for run in (*NOT_SEQUENCES, (2,), (-1,), (0, 2), "01", {0: 1}):
            self.assertEqual(caught(InvalidNumber, is_parting, Settings(), Settings(), menu, run), {"number": run})
        for index in NOT_INTEGERS:
            run = (0, index)
            self.assertEqual(caught(InvalidNumber, is_parting, Settings(), Settings(), menu, run), {"number": run})
        self.assertEqual(caught(InvalidNumber, is_parting, Settings(), Settings(), [], (0,)), {"number": (0,)})


class MenuTest(unittest.TestCase):
    def each(self, menu):
        """What each of the three functions raises for the menu."""
        return [
            caught(InvalidTrace, parting, Settings(), Settings(), menu, -1),
            caught(InvalidTrace, is_parting, Settings(), Settings(), menu, None),
            caught(InvalidTrace, alike, Settings(), Settings(), menu, 0),
        ]

    def test_what_is_no_sequence(self):
        for menu in NOT_SEQUENCES:
            self.assertEqual(self.each(menu), [{"place": 0}] * 3)

    def test_what_is_no_event(self):
        wrong = [
            ("out", ()), ("out", tuple(pack(CALLED))), ("tick", 1), (), ("in",), ("in", (-1,)), ("in", (65536,)),
            ("call", "crash", ()), ("call", "crash", (1,), ()), ("call", "nothing", (), ()), 5, None, "tick",
            ("call", "accept", (1,), (("backlog", 1),)), ("call", "listen", (1,), (("backlog", 1), ("backlog", 1))),
        ]
        for item in (*wrong, *[(kind,) for kind in NOT_STRINGS]):
            for place in range(3):
                menu = [TICK, CONNECT]
                menu.insert(place, item)
                self.assertEqual(self.each(menu), [{"place": place}] * 3, item)

    def test_the_first_wrong_item_decides(self):
        self.assertEqual(self.each([TICK, 5, 6]), [{"place": 1}] * 3)

    def test_lists_everywhere(self):
        menu = [TICK, CONNECT, comes(ANSWERED), ("call", "listen", (80,), (("backlog", 1),))]
        kept = deep_lists(menu)
        before = copy.deepcopy(kept)
        first, second = Settings(delay=0), Settings(rest=5, delay=0)
        self.assertIsNone(parting(first, second, kept, 3))
        self.assertEqual(alike(first, first, kept, 3), ("open",))
        self.assertIs(is_parting(first, second, kept, [1, 2]), False)
        self.assertEqual(kept, before)

    def test_wrong_depths(self):
        for depth in (-1, *NOT_INTEGERS):
            error = caught(InvalidNumber, parting, Settings(), Settings(), [TICK] * 30000, depth)
            self.assertEqual(error, {"number": depth})

    def test_what_is_no_settings(self):
        for call in (lambda a, b: parting(a, b, [TICK], 1), lambda a, b: is_parting(a, b, [TICK], (0,)),
                     lambda a, b: alike(a, b, [TICK], 1)):
            self.assertEqual(caught(InvalidSetting, call, None, Settings()), {"setting": "settings"})
            self.assertEqual(caught(InvalidSetting, call, Settings(), None), {"setting": "settings"})


SMALL = {"size": 64, "inbox": 8, "life": 1}


class AlikeTest(unittest.TestCase):
    def check(self, first, second, menu, many):
        """The search ends with "alike" after exactly so many standings."""
        self.assertEqual(alike(first, second, menu, many), ("alike",))
        if many > 1:
            self.assertEqual(alike(first, second, menu, many - 1), ("open",))

    def test_menus_without_a_tick(self):
        settings = Settings()
        self.check(settings, settings, [], 1)
        self.check(settings, settings, [START], 1)
        self.check(settings, settings, [LISTEN], 2)
        self.check(settings, settings, [LISTEN, UNLISTEN], 2)
        other = ("call", "listen", (81,), (("backlog", 1),))
        self.check(settings, settings, [LISTEN, other, UNLISTEN], 4)
        self.check(settings, settings, [other, ("call", "listen", (81,), ()), ("call", "unlisten", (81,), ())], 3)
        self.check(settings, settings, [CRASH], 2)
        # Other settings that no such event shows.
        self.check(settings, Settings(inbox=3, control="fixed"), [LISTEN, UNLISTEN], 2)

    def test_menus_with_a_tick(self):
        settings = Settings(**SMALL)
        self.check(settings, settings, [TICK], 128)
        self.check(settings, Settings(rest=5, **SMALL), [TICK, LISTEN], 256)
        self.check(settings, settings, [TICK, CRASH], 256)
        # Each station has its own circle of times, and both together come back later.
        self.check(settings, settings.changed(life=2), [TICK], 384)
        self.check(settings, settings.changed(size=128), [TICK], 256)
        self.assertEqual(alike(settings, settings.changed(life=4), [TICK], 500), ("open",))

    def test_what_never_ends(self):
        settings = Settings(**SMALL)
        self.assertEqual(alike(settings, settings, [CONNECT], 60), ("open",))
        self.assertEqual(alike(settings, settings, [CRASH, START], 500), ("open",))

    def test_apart(self):
        first, second = Settings(), Settings(low=3)
        self.assertEqual(alike(first, Settings(inbox=63), [CONNECT], 1), ("apart", (0,)))
        run = (1,) + (0,) * 8
        self.assertEqual(alike(first, second, [TICK, CONNECT], 500), ("apart", run))
        self.assertEqual(alike(second, first, [TICK, CONNECT], 500), ("apart", run))
        self.assertEqual(parting(first, second, [TICK, CONNECT], 9), run)

    def test_apart_with_just_enough_standings(self):
        first, second, menu = Settings(low=1), Settings(), [TICK, CONNECT]
        answers = [alike(first, second, menu, most)[0] for most in range(1, 80)]
        least = answers.index("apart")
        self.assertEqual(set(answers[:least]), {"open"})
        self.assertEqual(set(answers[least:]), {"apart"})

    def test_an_error_in_one_station_alone(self):
        first, second = Settings(size=64, inbox=8), Settings(size=128, inbox=8)
        menu = [("call", "resize", (1, 20), ()), CONNECT]
        self.assertEqual(alike(first, second, menu, 9), ("apart", (1, 0)))

    def test_the_first_of_the_shortest_runs(self):
        found = 0
        for seed in range(60):
            random = Random(seed)
            first, second, menu = drawn_case(random, 64)
            result = alike(first, second, menu, 60)
            if result[0] == "apart":
                run = result[1]
                found += 1
                self.assertIs(is_parting(first, second, menu, run), True)
                if len(run) < 7:
                    self.assertEqual(parting(first, second, menu, len(run)), run)
                    self.assertIsNone(parting(first, second, menu, len(run) - 1))
        self.assertGreater(found, 10)

    def test_a_cookie_in_the_menu(self):
        bearer = comes(THIRD.changed(cookie=COOKIE))
        for place in range(3):
            menu = [TICK, CONNECT]
            menu.insert(place, bearer)
            error = caught(InvalidTrace, alike, Settings(), Settings(), menu, 0)
            self.assertEqual(error, {"place": place})
        self.assertEqual(caught(InvalidTrace, alike, Settings(), Settings(), [bearer, 5], 1), {"place": 0})
        self.assertEqual(caught(InvalidTrace, alike, Settings(), Settings(), [5, bearer], 1), {"place": 0})

    def test_words_that_hold_no_segment_may_look_like_a_cookie(self):
        words = pack(THIRD.changed(cookie=COOKIE))
        words[20] ^= 1
        self.check(Settings(), Settings(), [("in", words), ("in", words[:5]), ("in", ())], 1)

    def test_wrong_numbers_of_standings(self):
        for most in (0, 501, -1, *NOT_INTEGERS):
            error = caught(InvalidNumber, alike, Settings(), Settings(), [TICK], most)
            self.assertEqual(error, {"number": most})
        self.assertEqual(alike(Settings(), Settings(), [], 500), ("alike",))
        self.assertEqual(alike(Settings(), Settings(), [], 1), ("alike",))


def ago(when, now):
    return None if when is None else when - now


def end_look(end, now):
    """What counts of one end, as the document tells it, read from all that the end holds."""
    inbox = {name: value for name, value in vars(end.inbox).items() if name not in ("_ahead", "_latest")}
    inbox = (str(sorted(inbox.items(), key=lambda pair: pair[0])), str(end.inbox.told_runs()))
    if end.state == "gone":
        return ("gone", end.reason, inbox)
    found = dict(vars(end))
    for name in ("settings", "ring", "outgoing"):
        del found[name]
    found["inbox"] = inbox
    for name in ("sacked", "lost", "resent"):
        found[name] = found[name].rows()
    found["timed_at"] = ago(end.timed_at, now)
    found["period"] = end.period - now // (end.settings.life + 1)
    found["alarms"] = sorted([(name, when - now) for name, when in end.alarms._times.items()])
    for name in ("outbox", "estimate", "finder", "control"):
        part = getattr(end, name)
        found[name] = None if part is None else dict(vars(part))
    if found["control"] is not None and "born" in found["control"]:
        found["control"]["born"] = ago(end.control.born, now)
    return str(sorted(found.items()))


def station_look(station):
    now = station.now
    settings = station.settings
    listeners = sorted([(port, one.backlog, one.waiting, one.readied) for port, one in station._listeners.items()])
    ends = [(handle, handle in station._handed, end_look(end, now)) for handle, end in station._connections.items()]
    return str((
        now % (settings.size * (settings.life + 1)), station.era, station.used, station.down, station._next_handle,
        sorted(station._marks_made), listeners, ends,
    ))


def outcome(station, event):
    try:
        if event[0] == "tick":
            station.advance()
        elif event[0] == "in":
            station.deliver(event[1])
        else:
            getattr(station, event[1])(*event[2], **dict(event[3]))
    except LossError:
        return "error"
    return station.drain()


def plain_search(first, second, menu, most):
    """The search as the document tells it, with every run played from its begin."""
    def played(run):
        stations = [Station(first), Station(second)]
        found = None
        for index in run:
            found = [outcome(station, menu[index]) for station in stations]
        return stations, found

    def look(stations):
        return tuple([station_look(station) for station in stations])

    queue, met, visited = [()], {look(played(())[0])}, 0
    while queue:
        if visited == most:
            return ("open",)
        run = queue.pop(0)
        visited += 1
        for index in range(len(menu)):
            longer = (*run, index)
            stations, found = played(longer)
            if found[0] != found[1]:
                return ("apart", longer)
            if look(stations) not in met:
                met.add(look(stations))
                queue.append(longer)
    return ("alike",)


class PlainSearchTest(unittest.TestCase):
    def test_the_same_answers(self):
        answers = {}
        for seed in range(60):
            random = Random(seed)
            first, second, menu = drawn_case(random, 64)
            found = alike(first, second, menu, 30)
            self.assertEqual(found, plain_search(first, second, menu, 30), seed)
            answers[found[0]] = answers.get(found[0], 0) + 1
        self.assertGreater(min(answers.get("apart", 0), answers["open"]), 10)

    def test_the_same_number_of_standings(self):
        first = Settings(size=64, inbox=8, life=1, tries=1, low=1, high=1, rest=1, delay=0)
        menus = (
            [("call", "listen", (80,), (("backlog", 1),)), UNLISTEN], [ABORT, FORGET], [CRASH, LISTEN, UNLISTEN],
            [comes(CALLED), WRITE], [CRASH, comes(CALLED), LISTEN],
        )
        ends = set()
        for menu in menus:
            for second in (first, first.changed(fresh=9)):
                for most in range(1, 9):
                    found = alike(first, second, menu, most)
                    self.assertEqual(found, plain_search(first, second, menu, most))
                    ends.add(found[0])
        self.assertEqual(ends, {"alike", "open"})

    def test_a_running_measurement_makes_each_tick_new(self):
        settings = Settings(size=64, inbox=8, life=1, low=60, high=100)
        menu = [TICK]
        station = Station(settings)
        self.assertEqual(alike(settings, settings, menu, 128), ("alike",))
        standings = set()
        station.connect(80)
        for _ in range(200):
            station.advance()
            station.drain()
            standings.add(station.standing())
        self.assertEqual(len(standings), 200)

    def test_the_same_standing_after_a_circle_of_times(self):
        for name in CONTROLS:
            settings = Settings(size=64, inbox=8, life=1, control=name, delay=0)
            station = Station(settings)
            station.connect(80)
            station.deliver(pack(ANSWERED))
            station.deliver(pack(BYTES))
            # The pace looks back for two periods.
            for _ in range(6):
                station.advance()
            station.drain()
            first = station.standing()
            for tick in range(1, 129):
                station.advance()
                self.assertEqual(station.drain(), [])
                self.assertEqual(station.standing() == first, tick == 128)


if __name__ == "__main__":
    unittest.main()
