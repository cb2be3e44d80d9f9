"""The judge of traces: right ones, changed ones, and the forms of the events."""

import copy
import unittest
from random import Random

from lossway.errors import InvalidSetting, InvalidTrace
from lossway.replay import replay
from lossway.settings import Settings
from tests.values import NOT_INTEGERS, NOT_SEQUENCES, NOT_STRINGS, Same, caught
from tests.worlds import drawn_world, open_world


def traced(count=3, **choices):
    """The trace of side 0 of a small world, and its settings."""
    settings = Settings(**choices)
    world = open_world(settings)
    for step in range(count):
        world.call(0, "write", 1, [step, 7])
        world.advance(2)
    world.call(0, "close", 1)
    world.advance(3)
    return settings, world.trace(0)


def lists(trace):
    """The same trace with lists instead of tuples at every depth."""
    return [lists(item) if isinstance(item, (list, tuple)) else item for item in trace]


def first_place(trace, kind):
    return [event[0] for event in trace].index(kind)


class RightTest(unittest.TestCase):
    def test_a_small_world(self):
        settings, trace = traced()
        self.assertIsNone(replay(settings, trace))
        self.assertIsNone(replay(settings, []))

    def test_drawn_worlds(self):
        for seed in range(40):
            world, _, settings = drawn_world(seed)
            for side in (0, 1):
                self.assertIsNone(replay(settings[side], world.trace(side)), seed)

    def test_lists_and_tuples(self):
        settings, trace = traced()
        self.assertIsNone(replay(settings, tuple(trace)))
        self.assertIsNone(replay(settings, lists(trace)))

    def test_options_in_any_order(self):
        trace = [("call", "connect", (80,), (("source", 7), ("first", 9)))]
        _, due, _ = replay(Settings(), trace)
        self.assertEqual((due[0], due[8]), (7, 9))
        turned = [("call", "connect", (80,), [["first", 9], ["source", 7]]), ("out", due)]
        self.assertIsNone(replay(Settings(), turned))

    def test_the_trace_is_not_changed(self):
        settings, trace = traced()
        trace = lists(trace)
        before = copy.deepcopy(trace)
        replay(settings, trace)
        self.assertEqual(trace, before)

    def test_a_call_that_raises_an_error_does_nothing(self):
        settings, trace = traced()
        for place, event in enumerate(trace):
            if event[0] != "out":
                wrong = [("call", "start", (), ()), ("call", "read", (9, 1), ()), ("call", "listen", (0,), ())]
                self.assertIsNone(replay(settings, trace[:place] + wrong + trace[place:]))

    def test_the_era_is_1(self):
        _, due, _ = replay(Settings(), [("call", "connect", (80,), ())])
        self.assertEqual(due[4:6], (1, 1))


class WrongTest(unittest.TestCase):
    def setUp(self):
        self.settings, self.trace = traced()
        self.outs = [place for place, event in enumerate(self.trace) if event[0] == "out"]

    def test_the_beginning_of_a_right_trace(self):
        for end in range(len(self.trace)):
            found = replay(self.settings, self.trace[:end])
            if self.trace[end][0] == "out":
                self.assertEqual(found, (end, self.trace[end][1], None))
            else:
                self.assertIsNone(found)

    def test_a_list_that_is_left_out(self):
        for place in self.outs:
            changed = self.trace[:place] + self.trace[place + 1:]
            kind, *rest = changed[place]
            found = rest[0] if kind == "out" else None
            self.assertEqual(replay(self.settings, changed), (place, self.trace[place][1], found))

    def test_a_list_that_is_put_in(self):
        for place, event in enumerate(self.trace):
            for words in ((), (1, 2, 3), self.trace[self.outs[0]][1]):
                changed = self.trace[:place] + [("out", words)] + self.trace[place:]
                due = event[1] if event[0] == "out" else None
                if due != words:
                    self.assertEqual(replay(self.settings, changed), (place, due, words))

    def test_a_list_behind_the_end(self):
        self.assertEqual(replay(self.settings, self.trace + [("out", [5])]), (len(self.trace), None, (5,)))

    def test_a_list_that_is_doubled(self):
        for place in self.outs:
            words = self.trace[place][1]
            changed = self.trace[:place] + [("out", words)] + self.trace[place:]
            following = self.trace[place + 1] if place + 1 < len(self.trace) else ("tick",)
            due = following[1] if following[0] == "out" else None
            self.assertEqual(replay(self.settings, changed), (place + 1, due, words))

    def test_lists_that_are_exchanged(self):
        for one, other in zip(self.outs, self.outs[1:]):
            changed = list(self.trace)
            changed[one], changed[other] = changed[other], changed[one]
            self.assertEqual(replay(self.settings, changed), (one, self.trace[one][1], self.trace[other][1]))

    def test_each_changed_word(self):
        for place in self.outs[:3]:
            words = self.trace[place][1]
            for at in range(len(words)):
                bent = (*words[:at], (words[at] + 1) % 65536, *words[at + 1:])
                changed = self.trace[:place] + [("out", bent)] + self.trace[place + 1:]
                self.assertEqual(replay(self.settings, changed), (place, words, bent))

    def test_words_of_another_length(self):
        place = self.outs[0]
        words = self.trace[place][1]
        for other in (words[:-1], (*words, 0), ()):
            changed = self.trace[:place] + [("out", other)] + self.trace[place + 1:]
            self.assertEqual(replay(self.settings, changed), (place, words, other))

    def test_an_event_while_a_list_is_due(self):
        place = self.outs[0]
        for event in (("tick",), ("in", ()), ("call", "crash", (), ()), ("call", "start", (), ())):
            changed = self.trace[:place] + [event] + self.trace[place:]
            self.assertEqual(replay(self.settings, changed), (place, self.trace[place][1], None))

    def test_several_lists_are_due_in_their_order(self):
        # Many bytes in one call make several lists.
        world = open_world()
        world.call(0, "write", 1, list(range(16)))
        trace = world.trace(0)
        self.assertEqual([event[0] for event in trace[-3:]], ["call", "out", "out"])
        self.assertIsNone(replay(Settings(), trace))
        end = len(trace)
        turned = trace[:-2] + [trace[-1], trace[-2]]
        self.assertEqual(replay(Settings(), turned), (end - 2, trace[-2][1], trace[-1][1]))
        self.assertEqual(replay(Settings(), trace[:-1]), (end - 1, trace[-1][1], None))
        cut = trace[:-1] + [("tick",)]
        self.assertEqual(replay(Settings(), cut), (end - 1, trace[-1][1], None))

    def test_a_missing_tick(self):
        settings, trace = traced()
        place = first_place(trace, "tick")
        self.assertIsNotNone(replay(settings.changed(delay=5), trace[:place] + trace[place + 1:]))

    def test_another_choice_of_the_settings(self):
        world = open_world(Settings(piece=6, least=3, seek=True))
        for step in range(40):
            world.call(0, "write", 1, [step] * 9)
            world.advance(1 + step % 3)
            world.call(0, "read", 1, 1)
            world.call(1, "write", 1, [step])
        trace = world.trace(0)
        right = Settings(piece=6, least=3, seek=True)
        self.assertIsNone(replay(right, trace))
        for choices in ({"piece": 7}, {"inbox": 63}, {"size": 256}, {"least": 2}, {"seek": False}, {"delay": 0},
                        {"outbox": 8}, {"control": "fixed"}):
            self.assertIsNotNone(replay(right.changed(**choices), trace), choices)
        # What no list shows is not found.
        self.assertIsNone(replay(right.changed(rest=65, fresh=3), trace))

    def test_drawn_worlds_with_one_list_left_out(self):
        for seed in range(30):
            world, _, settings = drawn_world(seed, steps=80)
            random = Random(seed)
            for side in (0, 1):
                trace = world.trace(side)
                outs = [place for place, event in enumerate(trace) if event[0] == "out"]
                if outs:
                    place = random.choice(outs)
                    found = replay(settings[side], trace[:place] + trace[place + 1:])
                    if found is not None:
                        self.assertGreaterEqual(found[0], place)
                    else:
                        # Only the same list right behind it makes up for it.
                        self.fail((seed, side, place))


class FormTest(unittest.TestCase):
    RIGHT = [("tick",), ("in", ()), ("call", "listen", (80,), (("backlog", 1),)), ("tick",)]

    def check(self, wrong, message=None):
        for place in range(len(self.RIGHT) + 1):
            trace = self.RIGHT[:place] + [wrong] + self.RIGHT[place:]
            self.assertEqual(caught(InvalidTrace, replay, Settings(), trace), {"place": place}, message or repr(wrong))

    def test_right_forms(self):
        right = (
            ["tick"], ["in", []], ("in", (0, 65535)), ("in", [1] * 40), ["call", "crash", [], []],
            ("call", "write", [9, ["a", {}]], ()), ("call", "listen", ("x",), [("backlog", None)]),
            ("call", "connect", (None,), (("source", 1.5), ("first", []))), ("call", "forget", ([],), ()),
        )
        for event in right:
            self.assertIsNone(replay(Settings(), [event, *self.RIGHT]), event)
        self.assertEqual(replay(Settings(), [("out", ())]), (0, None, ()))

    def test_what_is_no_trace(self):
        for value in NOT_SEQUENCES:
            self.assertEqual(caught(InvalidTrace, replay, Settings(), value), {"place": 0})

    def test_what_is_no_event(self):
        for value in (*NOT_SEQUENCES, (), [], ("tock",), ("Tick",), ("",), ((),), "tick", (["tick"],)):
            self.check(value)
        for kind in (*NOT_STRINGS, Same()):
            self.check((kind,))
            self.check((kind, ()))
            self.check((kind, "crash", (), ()))
        self.check(("tock", "crash", (), ()))

    def test_ticks(self):
        self.check(("tick", 1))
        self.check(("tick", ()))
        self.check(("tick", None))

    def test_words(self):
        for kind in ("in", "out"):
            self.check((kind,))
            self.check((kind, (), ()))
            for value in NOT_SEQUENCES:
                self.check((kind, value))
            for word in (-1, 65536, *NOT_INTEGERS):
                self.check((kind, (1, word)))
                self.check((kind, (word, 1)))

    def test_calls(self):
        for rest in ((), ("crash",), ("crash", ()), ("crash", (), (), ())):
            self.check(("call", *rest))
        for name in (*NOT_STRINGS, Same(), "", "Crash", "advance", "status"):
            self.check(("call", name, (), ()))
        for value in NOT_SEQUENCES:
            self.check(("call", "crash", value, ()))
            self.check(("call", "crash", (), value))

    def test_numbers_of_values(self):
        counts = {"crash": 0, "start": 0, "write": 2, "urge": 2, "read": 2, "resize": 2}
        for name in ("listen", "unlisten", "connect", "accept", "write", "urge", "read", "close", "abort", "resize",
                     "forget", "crash", "start"):
            for count in range(4):
                event = ("call", name, (9,) * count, ())
                if count == counts.get(name, 1):
                    self.assertIn(replay(Settings(), [event])[:1] if name == "connect" else None, ((1,), None))
                else:
                    self.check(event)

    def test_options(self):
        for options in (("backlog", 1), (("backlog",),), (("backlog", 1, 2),), ("ab",), (5,), (("source", 1),),
                        ((b"backlog", 1),), (("backlog", 1), ("backlog", 1)), (("backlog", 1), ("backlog", 2)),
                        (("backlog", 1), ("first", 1)), ((None, 1),), (({}, 1),), {"backlog": 1}):
            self.check(("call", "listen", (80,), options))
        for name, count in (("accept", 1), ("write", 2), ("crash", 0)):
            self.check(("call", name, (1,) * count, (("backlog", 1),)))
        self.check(("call", "connect", (1,), (("backlog", 1),)))

    def test_forms_come_before_all_else(self):
        trace = [("out", (1,)), ("tick",), ("in", (-1,)), ("tock",)]
        self.assertEqual(caught(InvalidTrace, replay, Settings(), trace), {"place": 2})
        self.assertEqual(caught(InvalidTrace, replay, None, trace), {"place": 2})
        self.assertEqual(caught(InvalidSetting, replay, None, []), {"setting": "settings"})

    def test_a_station_that_is_down(self):
        trace = [("call", "crash", (), ()), ("tick",), ("in", (5,)), ("call", "write", (1, ()), ()),
                 ("call", "start", (), ()), ("call", "connect", (80,), ())]
        place, due, found = replay(Settings(), trace)
        self.assertEqual((place, due[4:6], found), (6, (2, 1), None))


if __name__ == "__main__":
    unittest.main()
