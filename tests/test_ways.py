import unittest

import oracles
from made import BOTH, DIAMOND, FALLING, MADE, NAMESAKES, OWN, RINGS, SHAPES, UNREACHED
from passmill.facts import fact
from samples import ROUND, STOP


class EdgesTest(unittest.TestCase):
    def told(self, program, edges):
        self.assertEqual(fact(program, "edges"), edges)

    def test_one_block(self):
        self.told(STOP, (("a", (), ()),))

    def test_an_end_that_leads_to_its_own_block(self):
        self.told(ROUND, (("a", ("a",), ("a",)),))

    def test_both_ways_lead_to_one_block(self):
        self.told(OWN, (("a", ("a",), ("a",)),))
        self.told(BOTH, (("a", ("b",), ()), ("b", (), ("a",))))

    def test_several_blocks(self):
        self.told(DIAMOND, (("a", ("b", "c"), ()), ("b", ("d",), ("a",)), ("c", ("d",), ("a",)), ("d", (), ("b", "c"))))

    def test_rings(self):
        self.told(RINGS, (
            ("a", ("b",), ()),
            ("b", ("c", "f"), ("a", "e")),
            ("c", ("d", "e"), ("b", "d")),
            ("d", ("c", "f"), ("c",)),
            ("e", ("b",), ("c",)),
            ("f", (), ("b", "d")),
        ))

    def test_blocks_that_are_not_reached_count(self):
        self.told(UNREACHED, (
            ("a", ("b",), ("e",)),
            ("b", (), ("a", "c")),
            ("c", ("b", "d"), ()),
            ("d", ("e",), ("c", "e")),
            ("e", ("a", "d"), ("d",)),
        ))

    def test_rising_whatever_the_order_of_the_blocks(self):
        self.told(FALLING, (
            ("a", (), ("aa", "b")),
            ("aa", ("a",), ("b",)),
            ("b", ("a", "aa"), ("z",)),
            ("m", ("z",), ("z",)),
            ("z", ("b", "m"), ("m",)),
        ))

    def test_places_are_no_blocks(self):
        self.told(NAMESAKES, (("a", ("b", "c"), ("c",)), ("b", ("c",), ("a",)), ("c", ("a", "c"), ("a", "b", "c"))))

    def test_made_programs(self):
        for program in (*SHAPES, *MADE):
            ends = {name: oracles.leads(end) for name, steps, end in program}
            self.told(program, tuple(
                (name, tuple(sorted(set(ends[name]))), tuple(sorted(other for other in ends if name in ends[other])))
                for name in sorted(ends)
            ))


class ReachTest(unittest.TestCase):
    def told(self, program, reach):
        self.assertEqual(fact(program, "reach"), reach)

    def test_the_first_one_is_reached(self):
        self.told(STOP, ("a",))
        self.told(ROUND, ("a",))
        self.told(OWN, ("a",))
        self.told((("z", (), ("stop",)), ("a", (), ("go", "z"))), ("z",))

    def test_several_blocks_and_rings(self):
        self.told(BOTH, ("a", "b"))
        self.told(DIAMOND, ("a", "b", "c", "d"))
        self.told(RINGS, ("a", "b", "c", "d", "e", "f"))
        self.told(NAMESAKES, ("a", "b", "c"))

    def test_rising(self):
        self.told(FALLING, ("a", "aa", "b", "m", "z"))

    def test_blocks_that_are_not_reached(self):
        self.told(UNREACHED, ("a", "b"))

    def test_ends_count_whatever_places_bear(self):
        self.told((("a", (), ("if", "x", "b", "c")), ("b", (), ("stop",)), ("c", (), ("stop",))), ("a", "b", "c"))

    def test_a_long_row_of_blocks(self):
        names = "lkjihgfedcba"
        program = tuple((name, (), ("go", to)) for name, to in zip(names, names[1:])) + (("a", (), ("stop",)),)
        self.told(program, tuple("abcdefghijkl"))

    def test_made_programs(self):
        for program in (*SHAPES, *MADE):
            self.told(program, oracles.reach(program))


class DomsTest(unittest.TestCase):
    def told(self, program, doms):
        self.assertEqual(fact(program, "doms"), doms)

    def test_the_first_one_has_itself_alone(self):
        for program in (STOP, ROUND, OWN):
            self.told(program, (("a", ("a",)),))

    def test_both_ways_lead_to_one_block(self):
        self.told(BOTH, (("a", ("a",)), ("b", ("a", "b"))))

    def test_ways_that_meet(self):
        self.told(DIAMOND, (("a", ("a",)), ("b", ("a", "b")), ("c", ("a", "c")), ("d", ("a", "d"))))

    def test_rings(self):
        self.told(RINGS, (
            ("a", ("a",)),
            ("b", ("a", "b")),
            ("c", ("a", "b", "c")),
            ("d", ("a", "b", "c", "d")),
            ("e", ("a", "b", "c", "e")),
            ("f", ("a", "b", "f")),
        ))

    def test_the_first_one_is_within_a_ring(self):
        self.told(NAMESAKES, (("a", ("a",)), ("b", ("a", "b")), ("c", ("a", "c"))))

    def test_rising_whatever_the_order_of_the_blocks(self):
        self.told(FALLING, (
            ("a", ("a", "b", "z")),
            ("aa", ("aa", "b", "z")),
            ("b", ("b", "z")),
            ("m", ("m", "z")),
            ("z", ("z",)),
        ))

    def test_blocks_that_are_not_reached_are_on_no_way(self):
        self.told(UNREACHED, (("a", ("a",)), ("b", ("a", "b"))))

    def test_made_programs(self):
        for program in (*SHAPES, *MADE):
            self.told(program, oracles.doms(program))


if __name__ == "__main__":
    unittest.main()
