"""What holds of all passes that are always there, over many programs."""

import unittest

import slow_passes
from made import MADE, POOLED, SHAPES, made_program
from passmill.facts import fact, hangs_on
from passmill.halves import after
from passmill.programs import is_program, size_of
from passmill.running import as_good, run
from slow_passes import HANGS, KEEPS, OWN

PROGRAMS = (*SHAPES, *MADE[:250], *POOLED)
INPUTS = ([], [1], [0, 1, 0, 2], [5, 5, 9972, 0, 5, 3, 3, 3])


def after_one(program, name):
    """What one pass makes of a program."""
    return after(program, [name], plugs=[])


def largest_program():
    """Twelve blocks of sixteen steps each."""
    names = "abcdefghijkl"
    steps = tuple(("add", f"x{place}", f"y{place}", "q") for place in names) + (("get", "q"),) * 4
    return tuple((name, steps, ("if", "q", to, "a")) for name, to in zip(names, names[1:] + "a"))


class AllPassesTest(unittest.TestCase):
    def each(self):
        """Each pass and each program, with what comes of it."""
        for name in OWN:
            for program in PROGRAMS:
                yield name, program, after_one(program, name)

    def test_what_another_way_finds(self):
        for name, program, made in self.each():
            self.assertEqual(made, slow_passes.after(program, [name]), (name, program))

    def test_programs_come_that_are_no_larger(self):
        for name, program, made in self.each():
            self.assertTrue(is_program(made), (name, program))
            self.assertLessEqual(size_of(made), size_of(program), (name, program))

    def test_they_do_as_well(self):
        for name, program, made in self.each():
            if made != program:
                for inputs in INPUTS:
                    for turns in (1, 2, 5, 11, 60):
                        self.assertTrue(as_good(made, program, inputs, turns=turns), (name, program, inputs, turns))

    def test_they_put_the_same_and_do_no_more(self):
        for name, program, made in self.each():
            for inputs in INPUTS[:2]:
                puts, ending, done = run(program, inputs)
                other_puts, other_ending, other_done = run(made, inputs)
                if ending == "stop":
                    self.assertEqual((other_puts, other_ending), (puts, "stop"))
                    self.assertLessEqual(other_done, done)

    def test_kept_facts_are_as_ahead(self):
        for name, program, made in self.each():
            if made != program:
                for kept in KEEPS[name]:
                    self.assertEqual(fact(made, kept), fact(program, kept), (name, kept, program))

    def test_what_kept_facts_hang_on_is_as_ahead(self):
        # Where prune left blocks out, these have no row in "edges": a mill drops all that hang on it then.
        for name, program, made in self.each():
            if made != program and name != "prune":
                for kept in KEEPS[name]:
                    for other in hangs_on(kept):
                        self.assertEqual(fact(made, other), fact(program, other), (name, other, program))

    def test_each_turns_some_and_leaves_some(self):
        for name in OWN:
            turned = sum(after_one(program, name) != program for program in PROGRAMS)
            self.assertGreater(turned, 25, name)
            self.assertLess(turned, len(PROGRAMS) - 25, name)

    def test_the_programs_are_of_all_kinds(self):
        reached = [(program, fact(program, "reach")) for program in PROGRAMS]
        edges = [fact(program, "edges") for program in PROGRAMS]
        names = [[block[0] for block in program] for program in PROGRAMS]
        self.assertGreater(sum(len(program) == 1 for program in PROGRAMS), 25)
        self.assertGreater(sum(len(found) < len(program) for program, found in reached), 100)
        self.assertGreater(sum(any(
            name not in found and set(targets) & set(found) for name, targets, _ in fact(program, "edges")
        ) for program, found in reached), 50)
        self.assertGreater(sum(any(name in targets for name, targets, _ in rows) for rows in edges), 100)
        self.assertGreater(sum(told != sorted(told) for told in names), 100)

    def test_rows_of_passes(self):
        for number, program in enumerate(PROGRAMS[::5]):
            names = [OWN[(number * at + at) % 8] for at in range(12)]
            self.assertEqual(after(program, names, plugs=[]), slow_passes.after(program, names), (names, program))

    def test_long_rows_do_as_well(self):
        for program in PROGRAMS[::3]:
            made = after(program, list(OWN) * 5, plugs=[])
            for inputs in INPUTS:
                self.assertTrue(as_good(made, program, inputs), (program, inputs))

    def test_the_largest_program(self):
        program = largest_program()
        for name in OWN:
            self.assertEqual(after_one(program, name), slow_passes.after(program, [name]), name)

    def test_the_same_again(self):
        for name in OWN:
            for program in SHAPES:
                made = after_one(program, name)
                after_one(made_program(3), name)
                self.assertEqual(after_one(program, name), made)

    def test_what_facts_hang_on(self):
        for name, others in HANGS.items():
            self.assertEqual(hangs_on(name), others)


if __name__ == "__main__":
    unittest.main()
