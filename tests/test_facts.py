import unittest

from made import FACT_NAMES, MADE, SHAPES
from passmill.errors import NoFact, NoProgram
from passmill.facts import fact, hangs_on
from samples import ALL_WORDS, NOWHERE_RIGHT, STOP, one_block, wrong_programs

NO_FACT_NAMES = (
    *NOWHERE_RIGHT, "edge", "Edges", "edges ", " edges", "edges\n", "fold", "dom", "x", 0, 1, 2, (), ("edges",),
    ["edges"], [["edges"]], ("edges", "reach"), (("edges",),), [[[[[["edges"]]]]]], {}, b"edges", 1.5,
)


def kinds_within(thing):
    """All kinds of values of which a thing is made, its own, too."""
    found = {type(thing)}
    if isinstance(thing, (tuple, list)):
        for part in thing:
            found |= kinds_within(part)
    return found


class HangsOnTest(unittest.TestCase):
    def test_each_name(self):
        for name, others in (
            ("edges", ()), ("uses", ()), ("doms", ("edges", "reach")), ("reach", ("edges",)), ("live", ("edges",)),
            ("consts", ("edges",)), ("copies", ("edges",)), ("sums", ("edges",)),
        ):
            self.assertEqual(hangs_on(name), others)
            self.assertIs(type(hangs_on(name)), tuple)

    def test_all_other_things(self):
        for thing in NO_FACT_NAMES:
            with self.assertRaises(NoFact, msg=thing):
                hangs_on(thing)


class FactTest(unittest.TestCase):
    def test_tuples_throughout(self):
        for name in FACT_NAMES:
            for program in (*SHAPES, *MADE):
                told = fact(program, name)
                self.assertIs(type(told), tuple)
                self.assertLessEqual(kinds_within(told), {tuple, str, int, type(None)})

    def test_rows_are_rising_and_each_once(self):
        for name in FACT_NAMES:
            for program in (*SHAPES, *MADE):
                told = fact(program, name)
                keys = [row if name == "reach" else row[0] for row in told]
                self.assertEqual(keys, sorted(set(keys)))

    def test_parts_of_rows_are_rising_and_each_once(self):
        for program in (*SHAPES, *MADE):
            parts = [part for name in ("edges", "live", "doms") for row in fact(program, name) for part in row[1:]]
            for name in ("consts", "copies", "sums"):
                parts.extend([key for key, told in rows] for block, rows in fact(program, name))
            for part in parts:
                self.assertEqual(list(part), sorted(set(part)))

    def test_for_which_blocks(self):
        for program in (*SHAPES, *MADE):
            names = sorted(block[0] for block in program)
            for name in ("edges", "live"):
                self.assertEqual([row[0] for row in fact(program, name)], names)
            for name in ("doms", "consts", "copies", "sums"):
                self.assertEqual(tuple(row[0] for row in fact(program, name)), fact(program, "reach"))

    def test_the_same_again(self):
        for name in FACT_NAMES:
            for program in SHAPES:
                self.assertEqual(fact(program, name), fact(program, name))
            self.assertNotEqual(fact(ALL_WORDS, name), fact(STOP, name))
            self.assertEqual(fact(ALL_WORDS, name), fact(ALL_WORDS, name))

    def test_the_largest_program(self):
        names = "abcdefghijkl"
        steps = tuple(("add", f"x{place}", f"y{place}", "q") for place in names) + (("get", "q"),) * 4
        program = tuple((name, steps, ("if", "q", to, "a")) for name, to in zip(names, names[1:] + "a"))
        for name in FACT_NAMES:
            self.assertIs(type(fact(program, name)), tuple)
        self.assertEqual(len(fact(program, "doms")[11][1]), 12)


class RefusalsTest(unittest.TestCase):
    def test_what_is_no_program(self):
        for thing in (*wrong_programs(), (), one_block([], ("go", "b"))):
            with self.assertRaises(NoProgram, msg=thing):
                fact(thing, "edges")
        for name in FACT_NAMES:
            for thing in NOWHERE_RIGHT:
                with self.assertRaises(NoProgram, msg=thing):
                    fact(thing, name)

    def test_what_is_no_name_of_a_fact(self):
        for thing in NO_FACT_NAMES:
            with self.assertRaises(NoFact, msg=thing):
                fact(ALL_WORDS, thing)

    def test_no_program_comes_first(self):
        for thing in NO_FACT_NAMES:
            with self.assertRaises(NoProgram, msg=thing):
                fact((), thing)

    def test_what_is_handed_in_is_not_changed(self):
        wrong = [["edges"], [1, [None]]]
        with self.assertRaises(NoProgram):
            fact(wrong, wrong)
        with self.assertRaises(NoFact):
            fact(STOP, wrong)
        with self.assertRaises(NoFact):
            hangs_on(wrong)
        self.assertEqual(wrong, [["edges"], [1, [None]]])


if __name__ == "__main__":
    unittest.main()
