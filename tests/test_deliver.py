"""lossway.station: promises 60 and 61, what a station does with the words that arrive."""

import unittest

from lossway.segments import Segment
from lossway.settings import Settings
from lossway.station import Station
from lossway.words import pack, unpack
from tests.test_station import look, opening, reply, reset_of, sent, served
from tests.values import NOT_SEQUENCES


def listening(backlog=2, now=0, **choices):
    station = Station(Settings(**choices))
    for _ in range(now):
        station.advance()
    station.listen(80, backlog=backlog)
    return station


def cookie_of(station, source=5, mark=900, **fields):
    """The cookie segment with which the station answers an opening."""
    station.drain()
    assert station.deliver(opening(source=source, mark=mark, **fields)) == "cookie"
    segment, = sent(station)
    return segment


def back(segment, **fields):
    """The first segment of a peer that got a cookie."""
    return reply(segment, **{"cookie": segment.cookie, **fields})


def changed(words, **fields):
    """The words with other fields, and the sum that belongs to them."""
    return pack(unpack(words).changed(**fields))


class ResultsTest(unittest.TestCase):
    def test_bent(self):
        station = listening()
        handle = served(station)
        before = look(station)
        words = opening()
        for wrong in (*NOT_SEQUENCES, [], words[:-1], words + [0], [None] * 19, [words[0] ^ 1] + words[1:],
                      [0] * 19, words[:3] + [True] + words[4:]):
            self.assertEqual(station.deliver(wrong), "bent")
        words = pack(Segment(80, 40000, flags="S"))
        words[17:19] = [0, 5]
        self.assertEqual(station.deliver(words), "bent")
        self.assertEqual((look(station), station.drain(), station.handles()), (before, [], [handle]))

    def test_words_may_be_a_tuple_and_are_not_changed(self):
        station = listening()
        words = opening()
        self.assertEqual(station.deliver(tuple(words)), "queued")
        other = listening()
        self.assertEqual((other.deliver(words), words), ("queued", opening()))

    def test_down_comes_before_bent(self):
        station = listening()
        station.crash()
        for words in (None, [], opening()):
            self.assertEqual(station.deliver(words), "ignored")

    def test_taken(self):
        station = listening()
        handle = served(station)
        connection = station.connection(handle)
        words = pack(Segment(5, 80, tag=connection.mark, mark=900, flags="A", seq=31, ack=(connection.first + 1) % 1024,
                             window=64, data=(7, 8)))
        self.assertEqual((station.deliver(words), station.read(handle, 9)), ("taken", (7, 8)))

    def test_taken_by_the_least_handle(self):
        # Two openings between the same ports are accepted by the same answerless segment.
        station = Station(Settings())
        first = station.connect(5, source=80)
        station.connection(first).state = "resting"
        second = station.connect(5, source=80)
        station.connection(first).state = "opening"
        self.assertEqual(station.deliver(opening()), "taken")
        self.assertEqual([station.connection(handle).state for handle in (first, second)], ["answering", "opening"])

    def test_taken_comes_before_all_that_follows(self):
        station = listening()
        station.deliver(opening())
        answer, = sent(station)
        self.assertEqual(station.deliver(opening()), "taken")
        self.assertEqual([segment.flags for segment in sent(station)], ["SA"])
        self.assertEqual(station.deliver(reply(answer, "AR")), "taken")

    def test_an_unknown_reset_is_ignored(self):
        station = listening()
        served(station)
        before = look(station)
        for flags in ("R", "AR", "SR", "SAFRU"):
            segment = Segment(5, 80, tag=7, mark=8, flags=flags, cookie=(7, 1, 0, 8, 8, 1))
            self.assertEqual(station.deliver(pack(segment)), "ignored")
        self.assertEqual((look(station), station.drain()), (before, []))

    def test_challenged(self):
        station = listening()
        handle = served(station)
        station.drain()
        self.assertEqual(station.deliver(opening(mark=901)), "challenged")
        segment, = sent(station)
        self.assertEqual((segment.flags, segment.tag, segment.mark), ("A", 900, station.connection(handle).mark))
        self.assertEqual(station.used, 1)

    def test_a_connection_that_answers_is_challenged(self):
        station = listening()
        station.deliver(opening())
        answer, = sent(station)
        self.assertEqual(station.deliver(opening(mark=901)), "challenged")
        self.assertEqual(sent(station), [answer])

    def test_the_busy_connection_with_the_least_handle_is_challenged(self):
        station = listening(backlog=0)
        segments = [cookie_of(station), cookie_of(station)]
        for segment in reversed(segments):
            self.assertEqual(station.deliver(back(segment)), "resumed")
            station.accept(80)
        station.drain()
        self.assertEqual(station.deliver(opening(mark=901)), "challenged")
        segment, = sent(station)
        self.assertEqual((segment.flags, segment.mark), ("A", station.connection(1).mark))
        station.abort(1)
        station.drain()
        self.assertEqual(station.deliver(opening(mark=901)), "challenged")
        segment, = sent(station)
        self.assertEqual((segment.flags, segment.mark), ("A", station.connection(2).mark))

    def test_a_challenge_needs_no_listener(self):
        station = listening()
        served(station)
        station.unlisten(80)
        self.assertEqual(station.deliver(opening(mark=901)), "challenged")

    def test_a_connection_that_rests_or_is_gone_is_not_busy(self):
        for state in ("resting", "gone"):
            station = listening()
            handle = served(station)
            station.connection(handle).state = state
            self.assertEqual(station.deliver(opening(mark=901)), "queued")

    def test_an_opening_without_a_listener_is_refused(self):
        station = Station(Settings())
        self.assertEqual(station.deliver(opening(port=81, seq=30)), "refused")
        self.assertEqual(sent(station), [Segment(81, 5, tag=900, flags="R")])
        self.assertEqual(station.used, 0)

    def test_an_opening_without_a_mark_left(self):
        station = listening(backlog=1)
        station.used = 65535
        before = look(station)
        self.assertEqual((station.deliver(opening()), station.drain(), look(station)), ("ignored", [], before))
        self.assertEqual(station.deliver(opening(port=81)), "refused")
        station.used = 65534
        self.assertEqual((station.deliver(opening()), station.used), ("queued", 65535))
        self.assertEqual(sent(station)[1].mark, 131071)

    def test_queued(self):
        station = listening(backlog=2, now=3, piece=6, inbox=20)
        self.assertEqual(station.deliver(opening(seq=1023)), "queued")
        mark = 65537
        self.assertEqual(sent(station), [Segment(
            80, 5, tag=900, mark=mark, flags="SA", seq=(21 + 31 * mark) % 1024, ack=0, window=20, piece=6,
        )])
        self.assertEqual((station.used, station.handles(), station.accept(80)), (1, [], None))

    def test_the_backlog_counts_those_that_wait(self):
        station = listening(backlog=2)
        self.assertEqual(station.deliver(opening(source=5, mark=901)), "queued")
        self.assertEqual(station.deliver(opening(source=6, mark=902)), "queued")
        first, second = sent(station)
        self.assertEqual(station.deliver(opening(source=7, mark=903)), "cookie")
        # One that is ready waits as well, until it is accepted or gone.
        station.deliver(reply(first))
        self.assertEqual(station.deliver(opening(source=7, mark=903)), "cookie")
        station.accept(80)
        self.assertEqual(station.deliver(opening(source=7, mark=903)), "queued")
        self.assertEqual(station.deliver(opening(source=8, mark=904)), "cookie")
        station.deliver(reply(second, "AR"))
        self.assertEqual(station.deliver(opening(source=8, mark=904)), "queued")

    def test_other_openings_are_refused(self):
        for fields, flags in (({"tag": 7}, "S"), ({}, "SA"), ({}, "SF"), ({}, "SU"), ({"tag": 7}, "SA")):
            station = listening()
            before = look(station)
            segment = Segment(5, 80, mark=900, flags=flags, seq=30, ack=77, **fields)
            self.assertEqual(station.deliver(pack(segment)), "refused")
            self.assertEqual(sent(station), [Segment(80, 5, tag=900, mark=segment.tag, flags="R", seq=77)])
            self.assertEqual(look(station), before)

    def test_other_segments_are_refused(self):
        station = listening()
        served(station)
        before = look(station)
        for flags in ("", "A", "F", "AFU"):
            segment = Segment(5, 80, tag=4294967295, mark=7, flags=flags, seq=30, ack=4294967295, window=9, urgent=8,
                              piece=7, blocks=[(1, 2)], data=(1,))
            self.assertEqual(station.deliver(pack(segment)), "refused")
            self.assertEqual(sent(station), [Segment(80, 5, tag=7, mark=4294967295, flags="R", seq=4294967295)])
        self.assertEqual(look(station), before)

    def test_the_peer_takes_the_reset_of_a_refused_opening(self):
        station = Station(Settings())
        handle = station.connect(80)
        words, = station.drain()
        other = Station(Settings())
        self.assertEqual(other.deliver(words), "refused")
        self.assertEqual(station.deliver(other.drain()[0]), "taken")
        self.assertEqual(station.status(handle)["reason"], "reset")

    def test_a_segment_of_a_connection_that_is_gone(self):
        station = listening()
        handle = served(station)
        words = reset_of(station, handle)
        self.assertEqual((station.deliver(words), station.deliver(words)), ("taken", "ignored"))


class CookieTest(unittest.TestCase):
    def test_the_cookie(self):
        station = listening(backlog=0, now=3, piece=6, inbox=20)
        segment = cookie_of(station, seq=1023, piece=9)
        mark = 65537
        first = (21 + 31 * mark) % 1024
        self.assertEqual(segment, Segment(
            80, 5, tag=900, mark=mark, flags="SA", seq=first, ack=0, window=20, piece=6,
            cookie=(mark, first, 3, 9, 900, 1023),
        ))
        self.assertEqual((station.used, station.handles()), (1, []))

    def test_nothing_is_kept_of_the_opening(self):
        station = listening(backlog=0)
        first, second = cookie_of(station), cookie_of(station)
        self.assertEqual((first.mark, second.mark, station.used), (65537, 65538, 2))
        station.advance()
        self.assertEqual((station.drain(), station.accept(80)), ([], None))

    def test_a_valid_cookie(self):
        station = listening(backlog=0, now=3)
        segment = cookie_of(station, piece=6, seq=30)
        self.assertEqual(station.deliver(back(segment, window=9, data=(7, 8))), "resumed")
        handle = station.accept(80)
        connection = station.connection(handle)
        self.assertEqual((handle, connection.state, connection.mark, connection.first), (1, "open", 65537, segment.seq))
        self.assertEqual((connection.peer_mark, connection.peer_first, connection.control.unit), (900, 30, 6))
        self.assertEqual((connection.peer_edge, station.read(handle, 9)), (10, (7, 8)))
        self.assertEqual((station.used, connection.cookie), (1, ()))

    def test_a_cookie_that_comes_back_twice(self):
        station = listening(backlog=0)
        segment = cookie_of(station)
        self.assertEqual((station.deliver(back(segment)), station.deliver(back(segment))), ("resumed", "taken"))
        handle = station.accept(80)
        station.deliver(reset_of(station, handle))
        # The mark was used, though its connection is gone, and also when it is forgotten.
        self.assertEqual(station.deliver(back(segment)), "refused")
        station.forget(handle)
        self.assertEqual(station.deliver(back(segment)), "refused")

    def test_the_marks_of_all_connections_are_remembered(self):
        for make in ("connect", "queue"):
            station = listening(backlog=1)
            if make == "connect":
                station.connect(90)
            else:
                station.deliver(opening(source=9))
            station.drain()
            cookie = (65537, 5, 0, 8, 900, 30)
            segment = Segment(5, 80, tag=65537, mark=900, flags="A", seq=31, ack=6, cookie=cookie)
            self.assertEqual(station.deliver(pack(segment)), "refused")
            station.used = 2
            segment = segment.changed(tag=65538, cookie=(65538, *cookie[1:]))
            self.assertEqual(station.deliver(pack(segment)), "resumed")

    def test_each_condition(self):
        for fields, number, wrong in (
            ({"tag": 65538}, 0, 65537), ({"tag": 65538}, 0, 65539), ({"mark": 901}, 4, 900), ({}, 1, 1024),
            ({}, 1, 4294967295), ({}, 5, 1024), ({}, 2, 11), ({"flags": ""}, 3, 8), ({"flags": "F"}, 3, 8),
            ({"target": 81}, 3, 8),
        ):
            station = listening(backlog=0, now=10)
            segment = cookie_of(station)
            cookie = list(segment.cookie)
            cookie[number] = wrong
            words = changed(back(segment), cookie=cookie, **fields)
            before = look(station)
            self.assertEqual(station.deliver(words), "refused", (fields, number))
            self.assertEqual((len(station.drain()), look(station)), (1, before))
            self.assertEqual(station.deliver(back(segment)), "resumed")

    def test_numbers_at_the_end_of_the_ring(self):
        for number in (1, 5):
            for value in (0, 1023):
                station = listening(backlog=0)
                segment = cookie_of(station)
                cookie = list(segment.cookie)
                cookie[number] = value
                self.assertEqual(station.deliver(changed(back(segment), cookie=cookie)), "resumed")

    def test_a_piece_is_not_checked(self):
        for piece, unit in ((0, 4), (4294967295, 8), (5, 5)):
            station = listening(backlog=0)
            segment = cookie_of(station)
            cookie = list(segment.cookie)
            cookie[3] = piece
            self.assertEqual(station.deliver(changed(back(segment), cookie=cookie)), "resumed")
            self.assertEqual(station.connection(station.accept(80)).control.unit, unit)

    def test_the_time(self):
        for later, result in ((0, "resumed"), (1, "resumed"), (7, "resumed"), (8, "refused"), (99, "refused")):
            station = listening(backlog=0, now=3, fresh=7)
            segment = cookie_of(station)
            for _ in range(later):
                station.advance()
            self.assertEqual(station.deliver(back(segment)), result)

    def test_marks_that_were_not_given(self):
        for used, result in ((1, "resumed"), (2, "resumed"), (0, "refused")):
            station = listening(backlog=0)
            segment = cookie_of(station)
            station.used = used
            self.assertEqual(station.deliver(back(segment)), result)
        station = listening(backlog=0)
        segment = cookie_of(station)
        mark = 65536
        words = changed(back(segment), tag=mark, cookie=(mark, *segment.cookie[1:]))
        self.assertEqual(station.deliver(words), "refused")

    def test_another_era(self):
        station = listening(backlog=0)
        segment = cookie_of(station)
        station.crash()
        station.start()
        station.listen(80, backlog=0)
        self.assertEqual(station.deliver(back(segment)), "refused")
        other = cookie_of(station)
        self.assertEqual((other.mark, station.deliver(back(other))), (2 * 65536 + 1, "resumed"))

    def test_an_opening_with_a_cookie_is_an_opening(self):
        station = listening(backlog=0)
        segment = cookie_of(station)
        self.assertEqual(station.deliver(opening(cookie=segment.cookie)), "cookie")
        station.drain()
        self.assertEqual(station.deliver(changed(back(segment), flags="SA")), "refused")

    def test_a_listener_with_enough_that_are_ready(self):
        for backlog, most in ((0, 1), (1, 1), (2, 2)):
            station = listening(backlog=backlog)
            for number in range(backlog):
                station.deliver(opening(source=100 + number, mark=100 + number))
            waiting = sent(station)
            segments = [cookie_of(station, source=source, mark=source) for source in range(10, 14)]
            for number, segment in enumerate(segments):
                before = look(station)
                wanted = "resumed" if number < most else "ignored"
                self.assertEqual(station.deliver(back(segment)), wanted)
                if wanted == "ignored":
                    self.assertEqual((look(station), station.drain()), (before, []))
            # Those that wait without being ready do not count.
            self.assertEqual(len(waiting), backlog)
            station.accept(80)
            self.assertEqual(station.deliver(back(segments[3])), "resumed")

    def test_a_resumed_connection_waits_at_its_listener(self):
        station = listening(backlog=1)
        self.assertEqual(station.deliver(opening(source=6, mark=906)), "queued")
        answer, = sent(station)
        segment = cookie_of(station)
        station.deliver(reply(answer, "AR"))
        self.assertEqual(station.deliver(back(segment)), "resumed")
        self.assertEqual(station.deliver(opening(source=7, mark=907)), "cookie")
        station.drain()
        station.unlisten(80)
        reset, = sent(station)
        self.assertEqual((reset.flags, reset.mark), ("AR", segment.mark))

    def test_the_pair_may_be_busy(self):
        station = listening(backlog=0)
        first, second = cookie_of(station), cookie_of(station)
        self.assertEqual(station.deliver(back(first)), "resumed")
        station.accept(80)
        self.assertEqual(station.deliver(back(second)), "resumed")
        handle = station.accept(80)
        self.assertEqual((handle, station.connection(1).target, station.connection(2).target), (2, 5, 5))

    def test_resumed_and_answered_connections_become_ready_in_turn(self):
        station = listening(backlog=1)
        station.deliver(opening(source=6, mark=906))
        answer, = sent(station)
        segment = cookie_of(station)
        station.deliver(reply(answer))
        station.listen(81, backlog=0)
        self.assertEqual(station.deliver(back(segment)), "ignored")
        self.assertEqual(station.accept(80), 1)
        self.assertEqual((station.deliver(back(segment)), station.accept(80)), ("resumed", 2))

    def test_a_peer_brings_its_cookie_back(self):
        station, other = listening(backlog=0), Station(Settings())
        handle = other.connect(80)
        other.write(handle, [1, 2, 3])
        results = []
        for _ in range(3):
            results += [station.deliver(words) for words in other.drain()]
            results += [other.deliver(words) for words in station.drain()]
        self.assertEqual(results[:3], ["cookie", "taken", "resumed"])
        self.assertEqual(station.read(station.accept(80), 9), (1, 2, 3))


if __name__ == "__main__":
    unittest.main()
