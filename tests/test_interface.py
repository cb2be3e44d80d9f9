"""The interface: each name stands in its own file, each method in the body of its own class."""

import inspect
import unittest
from importlib import import_module

FUNCTIONS = {
    "sums": {"check_sum": "(words)"},
    "words": {"pack": "(segment)", "unpack": "(words)"},
    "curves": {"control_of": "(kind, unit)"},
    "replay": {"replay": "(settings, trace)"},
    "ledgers": {"unsound": "(ledger)"},
    "compare": {
        "parting": "(first, second, menu, depth)", "is_parting": "(first, second, menu, run)",
        "alike": "(first, second, menu, most)",
    },
    "records": {"write_record": "(desk)", "read_record": "(text)", "board": "(world)"},
}
CONSTANTS = {
    "sums": ("PRIME",), "alarms": ("ALARMS",), "curves": ("KINDS",), "calls": ("CALLS",), "watcher": ("RULES",),
}
CONTROL = {
    "on_ack": "(self, count, flight, now)", "grow": "(self, count, now)", "on_loss": "(self, flight, now)",
    "on_expiry": "(self, flight, now)", "on_sample": "(self, ticks)",
}
CLASSES = {
    "ring": {"Ring": {
        "__init__": "(self, size)", "wrap": "(self, offset)", "unwrap": "(self, number, near)",
        "gap": "(self, low, high)", "before": "(self, low, high)", "within": "(self, low, number, high)",
        "of_bits": "(cls, bits)", "__contains__": "(self, number)", "__eq__": "(self, other)",
    }},
    "segments": {"Segment": {
        "__init__": "(self, source, target, *, tag=0, mark=0, flags='', seq=0, ack=0, window=0, urgent=0, piece=0, "
                    "cookie=(), blocks=(), data=())",
        "extent": None, "row": "(self)", "changed": "(self, **fields)", "of_row": "(row)",
        "__eq__": "(self, other)", "__str__": "(self)",
    }},
    "spans": {"Spans": {
        "__init__": "(self, *pairs)", "rows": "(self)", "total": "(self)", "put": "(self, low, high)",
        "drop": "(self, low, high)", "holding": "(self, offset)", "highest": "(self, count)",
        "gaps": "(self, low, high)", "__or__": "(self, other)", "__and__": "(self, other)",
        "__sub__": "(self, other)", "__contains__": "(self, offset)", "__eq__": "(self, other)", "__len__": "(self)",
    }},
    "outbox": {"Outbox": {
        "__init__": "(self, limit)", "limit": None, "free": None, "bound": None, "put": "(self, data)",
        "urge": "(self, data)", "shut": "(self)", "cut": "(self, low, high)", "release": "(self, offset)",
        "resize": "(self, limit)",
    }},
    "inbox": {"Inbox": {
        "__init__": "(self, limit)", "limit": None, "edge": None, "room": None, "ready": None, "ended": None,
        "expected": None, "urgent_count": None, "take": "(self, offset, data)", "finish": "(self, offset)",
        "read": "(self, count)", "told_runs": "(self)", "mark_urgent": "(self, offset)", "resize": "(self, limit)",
    }},
    "estimate": {"Estimate": {
        "__init__": "(self, low, high)", "timeout": None, "sample": "(self, ticks)", "backed": "(self, count)",
    }},
    "alarms": {"Alarms": {
        "arm": "(self, name, when)", "disarm": "(self, name)", "when": "(self, name)", "due": "(self, now)",
        "soonest": "(self)", "__contains__": "(self, name)", "__len__": "(self)",
    }},
    "finder": {"Finder": {
        "__init__": "(self, low, high)", "trial": "(self)", "passed": "(self, count)", "failed": "(self, count)",
    }},
    "control": {
        "Control": {"__init__": "(self, unit)", "starting": None, **CONTROL},
        "Fixed": {"__init__": "(self, unit, pieces=8)", **CONTROL},
        "Climb": CONTROL,
    },
    "curves": {"Curve": CONTROL, "Delay": CONTROL},
    "settings": {"Settings": {
        "__init__": "(self, **choices)", "row": "(self)", "changed": "(self, **choices)", "__eq__": "(self, other)",
    }},
    "connection": {"Connection": {
        "opening": "(cls, settings, source, target, *, mark, first, now)",
        "answering": "(cls, settings, segment, *, mark, first, now)", "resumed": "(cls, settings, segment, *, now)",
        "flight": None, "confirmed": None, "at_end": None, "accepts": "(self, segment)",
        "deliver": "(self, segment, now)", "tick": "(self, now)", "write": "(self, data, now)",
        "urge": "(self, data, now)", "read": "(self, count, now)", "resize": "(self, limit, now)",
        "close": "(self, now)", "abort": "(self, now)", "challenge": "(self, now)", "drain": "(self)",
    }},
    "station": {"Station": {
        "__init__": "(self, settings, *, era=1)", "listen": "(self, port, *, backlog=2)", "unlisten": "(self, port)",
        "connect": "(self, target, *, source=None, first=None)", "accept": "(self, port)",
        "write": "(self, handle, data)", "urge": "(self, handle, data)", "read": "(self, handle, count)",
        "close": "(self, handle)", "abort": "(self, handle)", "resize": "(self, handle, limit)",
        "forget": "(self, handle)", "connection": "(self, handle)", "handles": "(self)", "status": "(self, handle)",
        "deliver": "(self, words)", "advance": "(self)", "crash": "(self)", "start": "(self)", "drain": "(self)",
    }},
    "net": {"Net": {
        "__init__": "(self, *, life, copies=2, girth=1400, plans=((), ()), common=())", "flying": None,
        "send": "(self, side, words, now)", "add_fate": "(self, side, fate)", "arrivals": "(self, now)",
        "sent": "(self, side)",
    }},
    "world": {"World": {
        "__init__": "(self, first, second, *, copies=2, girth=1400, plans=((), ()), common=())", "quiet": None,
        "call": "(self, side, name, *values, **options)", "advance": "(self, count=1)", "run": "(self, limit)",
        "trace": "(self, side)", "ledger": "(self)",
    }},
    "watcher": {"Watcher": {
        "__init__": "(self, settings)", "see_in": "(self, words)", "see_out": "(self, words)",
    }},
    "desk": {"Desk": {
        "__init__": "(self, first, second, *, copies=2, girth=1400)", "do": "(self, deed)", "undo": "(self)",
        "redo": "(self)", "deeds": "(self)", "do_all": "(self, deeds)", "trial": "(self, deeds)", "twin": "(self)",
        "what_if": "(self, side, **choices)", "__len__": "(self)",
    }},
    "plays": {"Plays": {
        "__init__": "(self, first, second, script, *, menu, depth, ticks, most=4096)", "plays": "(self)",
        "play": "(self, choices)", "unsound": "(self)", "costliest": "(self)",
    }},
}


class InterfaceTest(unittest.TestCase):
    def test_functions(self):
        for file, functions in FUNCTIONS.items():
            for name, signature in functions.items():
                function = getattr(import_module("lossway." + file), name)
                self.assertEqual(function.__module__, "lossway." + file)
                self.assertEqual(str(inspect.signature(function)), signature, name)

    def test_constants(self):
        for file, names in CONSTANTS.items():
            for name in names:
                self.assertIn(name, vars(import_module("lossway." + file)))

    def test_classes(self):
        for file, classes in CLASSES.items():
            for name, members in classes.items():
                kind = getattr(import_module("lossway." + file), name)
                self.assertEqual(kind.__module__, "lossway." + file)
                for member, signature in members.items():
                    self.check_member(vars(kind)[member], signature)

    def check_member(self, member, signature):
        if signature is None:
            self.assertIsInstance(member, property)
        else:
            function = getattr(member, "__func__", member)
            self.assertEqual(str(inspect.signature(function)), signature)

    def test_kinds_of_methods(self):
        from lossway.plays import Plays
        from lossway.ring import Ring
        from lossway.segments import Segment
        from lossway.spans import Spans
        self.assertIsInstance(vars(Ring)["of_bits"], classmethod)
        self.assertIsInstance(vars(Segment)["of_row"], staticmethod)
        self.assertTrue(inspect.isgeneratorfunction(Spans.gaps))
        self.assertTrue(inspect.isgeneratorfunction(Plays.plays))


if __name__ == "__main__":
    unittest.main()
