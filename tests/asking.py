"""What tests of several files ask alike."""

import unittest

from made import FACT_NAMES
from passmill.halves import after
from passmill.mills import Mill
from samples import one_block

RULE = ((("put", "A"),), ())
MUTE = ("mute", (RULE,), ())

# Makes other values, and says that it keeps all.
LIAR = ("liar", (((("set", "A", 1),), (("set", "A", 2),)),), FACT_NAMES)


class PassTest(unittest.TestCase):
    """Asks what one pass makes, of whole programs and of the steps of the only block."""

    def makes(self, name, program, expected, plugs=()):
        self.assertEqual(after(program, [name], plugs=list(plugs)), expected)

    def makes_steps(self, name, steps, expected, end=("stop",), plugs=()):
        self.makes(name, one_block(steps, end), one_block(expected, end), plugs)

    def leaves(self, name, program):
        self.makes(name, program, program)


def all_of(mill):
    """All that a mill tells without being changed."""
    return mill.program(), mill.facts(), mill.log(), mill.versions(), mill.lies(), len(mill), str(mill)


def with_all_facts(program, *plugs, wary=False):
    """A mill of which all facts are kept."""
    mill = Mill(program, wary=wary)
    for plug in plugs:
        mill.plug(plug)
    # Not rising, so that what is told rising is not so by this.
    for name in FACT_NAMES[::-1]:
        mill.fact(name)
    return mill
