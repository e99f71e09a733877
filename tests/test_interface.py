"""The interface: names, arguments, and what all calls have in common."""

import copy
import importlib
import inspect
import unittest

from asking import LIAR, MUTE
from passmill.errors import MillError
from passmill.mills import Mill
from samples import ALL_WORDS, NOWHERE_RIGHT, STOP

# How many arguments stand ahead of the star, and which, with what they are without being handed in, behind it.
MISSING = inspect.Parameter.empty
CALLS = {
    "programs": {"is_program": (1, {}), "places_of": (1, {}), "size_of": (1, {})},
    "running": {"run": (2, {"turns": 500}), "as_good": (3, {"turns": 500})},
    "facts": {"hangs_on": (1, {}), "fact": (2, {})},
    "plugs": {"is_plug": (1, {})},
    "lines": {"read_line": (1, {}), "line_text": (1, {})},
    "halves": {
        "after": (2, {"plugs": MISSING}), "fine": (3, {"plugs": MISSING}), "guilty": (3, {"plugs": MISSING}),
        "needed": (3, {"plugs": MISSING}),
    },
    "orders": {"best_row": (3, {}), "commute": (3, {}), "settled": (2, {})},
    "texts": {"program_text": (1, {}), "read_program": (1, {}), "plug_text": (1, {}), "read_plug": (1, {})},
}
METHODS = {
    "plug": 1, "program": 0, "fact": 1, "facts": 0, "do_pass": 1, "do_line": 1, "log": 0, "versions": 0, "lies": 0,
    "back": 0, "__len__": 0, "__str__": 0,
}

# Things of many kinds, as they may be handed in wherever something is refused.
THINGS = (*NOWHERE_RIGHT, 0, 1, 4, "fold", "edges", "a:\n stop\n", "p\nget A > \n", ["fold"], [1, 2], [MUTE], MUTE, LIAR,
          ALL_WORDS, STOP, (), [None, True], ["fold", ["dead"]], [[[[[["fold"]]]]]])


def arguments(call):
    """How many arguments stand ahead of the star, and those behind it."""
    told = list(inspect.signature(call).parameters.values())
    behind = {one.name: one.default for one in told if one.kind == one.KEYWORD_ONLY}
    return len([one for one in told if one.kind == one.POSITIONAL_OR_KEYWORD]), behind


class InterfaceTest(unittest.TestCase):
    def test_functions(self):
        for module, calls in CALLS.items():
            found = importlib.import_module(f"passmill.{module}")
            for name, expected in calls.items():
                call = getattr(found, name)
                self.assertEqual(arguments(call), expected, name)
                self.assertEqual(call.__module__, f"passmill.{module}", name)

    def test_the_mill(self):
        self.assertEqual(Mill.__module__, "passmill.mills")
        self.assertEqual(arguments(Mill), (1, {"wary": False}))
        for name, many in METHODS.items():
            self.assertIn(name, vars(Mill))
            self.assertEqual(arguments(vars(Mill)[name]), (1 + many, {}), name)


class RefusalsTest(unittest.TestCase):
    def calls(self):
        """All calls, with how many things each takes, those behind a star, too."""
        for module, calls in CALLS.items():
            for name, (many, behind) in calls.items():
                yield getattr(importlib.import_module(f"passmill.{module}"), name), many, tuple(behind)

    def test_any_thing_is_taken_or_refused(self):
        for call, many, behind in self.calls():
            for number, thing in enumerate(THINGS):
                for first in (thing, ALL_WORDS):
                    handed = [first, *(THINGS[(number + at * 7) % len(THINGS)] for at in range(1, many + len(behind)))]
                    before = copy.deepcopy(handed)
                    try:
                        call(*handed[:many], **dict(zip(behind, handed[many:])))
                    except MillError:
                        pass
                    self.assertEqual(handed, before)

    def test_what_a_mill_takes(self):
        for thing in THINGS:
            for name in ("plug", "fact", "do_pass", "do_line"):
                mill = Mill(ALL_WORDS)
                mill.plug(MUTE)
                before = copy.deepcopy(thing)
                try:
                    getattr(mill, name)(thing)
                except MillError:
                    self.assertEqual((mill.facts(), mill.log(), mill.program()), ([], [], ALL_WORDS))
                self.assertEqual(thing, before)


if __name__ == "__main__":
    unittest.main()
