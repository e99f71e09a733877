"""What tests of several files ask alike."""

import unittest

from passmill.halves import after
from samples import one_block


class PassTest(unittest.TestCase):
    """Asks what one pass makes, of whole programs and of the steps of the only block."""

    def makes(self, name, program, expected, plugs=()):
        self.assertEqual(after(program, [name], plugs=list(plugs)), expected)

    def makes_steps(self, name, steps, expected, end=("stop",), plugs=()):
        self.makes(name, one_block(steps, end), one_block(expected, end), plugs)

    def leaves(self, name, program):
        self.makes(name, program, program)
