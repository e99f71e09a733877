"""best_row, commute and settled."""

import copy
import itertools
import unittest

import slow_passes
from made import CHAIN, MADE, POOLED, SHAPES
from passmill.errors import NoNumber, NoPasses, NoProgram
from passmill.orders import best_row, commute, settled
from passmill.programs import size_of
from samples import NOWHERE_RIGHT, ROUND, STOP, one_block, wrong_programs
from slow_passes import OWN

PROGRAMS = (*SHAPES, *MADE[::20], *POOLED[::6])

# fold leaves it as large, dead takes one step, and two behind fold.
FOLDED = one_block([("set", "x", 2), ("copy", "y", "x"), ("put", "y"), ("get", "z")])

NO_NAMES = (
    None, True, 0, "", "fold", (), ("fold",), {}, [], ["fold", "fold"], ["fold", "dead", "fold"], list(OWN[:5]),
    list(OWN), ["none"], ["fold", "plug"], ["Fold"], ["fold", None], [True], [0], [["fold"]], [("fold",)], [[[[[[]]]]]],
    ["consts"], [""], ["fold", ["dead"]],
)
NO_MANY = (None, True, False, -1, 5, 100, "", "2", [], [2], (2,), {}, 2.0, [[[[[[]]]]]], 10 ** 30)


def slow_best(program, names, many):
    """The least of all rows, by size, length and order."""
    rows = [list(row) for length in range(many + 1) for row in itertools.product(names, repeat=length)]
    sizes = [(size_of(slow_passes.after(program, row)), len(row), row) for row in rows]
    size, _, row = min(sizes)
    return size, row


class BestRowTest(unittest.TestCase):
    def test_none(self):
        self.assertEqual(best_row(FOLDED, ["fold", "dead"], 0), (5, []))
        self.assertEqual(best_row(STOP, list(OWN[:4]), 4), (1, []))

    def test_how_many(self):
        self.assertEqual(best_row(FOLDED, ["fold", "dead"], 1), (5, []))
        self.assertEqual(best_row(FOLDED, ["fold", "dead"], 2), (4, ["fold", "dead"]))
        self.assertEqual(best_row(FOLDED, ["dead", "fold"], 2), (4, ["fold", "dead"]))
        self.assertEqual(best_row(FOLDED, ["dead", "fold"], 4), (4, ["fold", "dead"]))

    def test_rows_of_the_same_size(self):
        program = (*one_block([("set", "x", 1)]), ("b", (), ("stop",)))
        # Both orders come to the same; the first by Python's order is told, whatever that of the names is.
        for names in itertools.permutations(("prune", "dead", "skip")):
            self.assertEqual(best_row(program, list(names), 3), (1, ["dead", "prune"]))

    def test_the_shortest_row(self):
        program = (*one_block([("set", "x", 1)]), ("b", (("put", "x"),), ("stop",)))
        for names in (["bend", "prune"], ["prune", "bend"]):
            self.assertEqual(best_row(program, names, 4), (2, ["prune"]))

    def test_the_same_pass_again(self):
        program = (("a", (("set", "x", 1),), ("go", "b")), ("b", (("copy", "y", "x"),), ("stop",)))
        self.assertEqual(best_row(program, ["dead"], 1), (3, ["dead"]))
        self.assertEqual(best_row(program, ["dead"], 4), (2, ["dead", "dead"]))

    def test_what_all_rows_tell(self):
        turned = 0
        for number, program in enumerate(PROGRAMS):
            names = [OWN[(number + at * 3) % 8] for at in range(1 + number % 3)]
            for many in range(4 if len(names) < 3 else 3):
                told = best_row(program, names, many)
                self.assertEqual(told, slow_best(program, names, many), (program, names, many))
                turned += len(told[1]) > 1
        self.assertGreater(turned, 5)

    def test_four_names_and_four_passes(self):
        for program in (PROGRAMS[2], PROGRAMS[-1]):
            names = ["fold", "spread", "dead", "bend"]
            self.assertEqual(best_row(program, names, 4), slow_best(program, names, 4))

    def test_kinds(self):
        told = best_row(FOLDED, ["fold", "dead"], 2)
        self.assertIs(type(told), tuple)
        self.assertIs(type(told[1]), list)
        told[1].append("x")
        self.assertEqual(best_row(FOLDED, ["fold", "dead"], 2), (4, ["fold", "dead"]))
        best_row(FOLDED, ["fold", "dead"], 0)[1].append("x")
        self.assertEqual(best_row(FOLDED, ["fold", "dead"], 0), (5, []))


class CommuteTest(unittest.TestCase):
    def test_those_that_do(self):
        self.assertIs(commute(FOLDED, "join", "dead"), True)
        self.assertIs(commute(STOP, "fold", "bend"), True)

    def test_those_that_do_not(self):
        self.assertIs(commute(FOLDED, "fold", "dead"), False)
        self.assertIs(commute(FOLDED, "dead", "fold"), False)
        program = (("a", (), ("if", "x", "b", "c")), ("b", (), ("stop",)), ("c", (), ("stop",)))
        self.assertIs(commute(program, "bend", "prune"), False)

    def test_a_pass_with_itself(self):
        for name in OWN:
            self.assertIs(commute(FOLDED, name, name), True)

    def test_what_both_orders_tell(self):
        found = []
        for program in PROGRAMS[::2]:
            for name, other in itertools.combinations(OWN, 2):
                expected = slow_passes.after(program, [name, other]) == slow_passes.after(program, [other, name])
                self.assertIs(commute(program, name, other), expected, (program, name, other))
                found.append(expected)
        self.assertGreater(found.count(False), 20)
        self.assertGreater(found.count(True), 20)


class SettledTest(unittest.TestCase):
    def rounds(self, program, names):
        """How many rounds turn something."""
        many = 0
        while slow_passes.after(program, names) != program:
            program = slow_passes.after(program, names)
            many += 1
        return many

    def test_at_rest_already(self):
        for program in (STOP, ROUND):
            for name in OWN:
                self.assertEqual(settled(program, [name]), program)

    def test_one_round(self):
        self.assertEqual(settled(FOLDED, ["fold", "dead"]), one_block([("set", "y", 2), ("put", "y"), ("get", "z")]))
        self.assertEqual(self.rounds(FOLDED, ["fold", "dead"]), 1)

    def test_two_rounds(self):
        self.assertEqual(settled(FOLDED, ["dead", "fold"]), one_block([("set", "y", 2), ("put", "y"), ("get", "z")]))
        self.assertEqual(self.rounds(FOLDED, ["dead", "fold"]), 2)

    def test_many_rounds(self):
        # Each round finds one block more in which what is written is not read any more.
        names = "abcdefghijkl"
        ahead = [(name, (("copy", f"x{to}", f"x{name}"),), ("go", to)) for name, to in zip(names, names[1:])]
        program = (*ahead, ("l", (), ("stop",)))
        self.assertEqual(self.rounds(program, ["dead"]), 11)
        self.assertEqual(settled(program, ["dead"]), tuple((name, (), end) for name, steps, end in program))

    def test_forty_rounds(self):
        self.assertEqual(size_of(CHAIN), 155)
        told = settled(CHAIN, ["dead"])
        self.assertEqual(size_of(told), 115)
        self.assertEqual(size_of(settled(told, ["dead"])), 75)
        # All of them together are one round.
        self.assertEqual(settled(CHAIN, ["prune", "dead", "skip"]), told)

    def test_many_programs(self):
        found = set()
        for number, program in enumerate(PROGRAMS):
            names = [OWN[(number + at * 3) % 8] for at in range(1 + number % 4)]
            expected = program
            for _ in range(40):
                expected = slow_passes.after(expected, names)
            self.assertEqual(settled(program, names), expected, (program, names))
            found.add(self.rounds(program, names))
        self.assertLessEqual({0, 1, 2}, found)


class RefusalsTest(unittest.TestCase):
    def refused(self, error, call, *handed):
        before = copy.deepcopy(handed)
        with self.assertRaises(error, msg=handed):
            call(*handed)
        self.assertEqual(handed, before)

    def test_no_program(self):
        for thing in (*wrong_programs(), (), *NOWHERE_RIGHT):
            self.refused(NoProgram, best_row, thing, ["fold"], 1)
            self.refused(NoProgram, commute, thing, "fold", "dead")
            self.refused(NoProgram, settled, thing, ["fold"])

    def test_no_program_comes_first(self):
        for names in NO_NAMES:
            self.refused(NoProgram, best_row, (), names, 5)
            self.refused(NoProgram, commute, (), names, names)
            self.refused(NoProgram, settled, (), names)

    def test_no_names(self):
        for names in (*NO_NAMES, *NOWHERE_RIGHT):
            self.refused(NoPasses, best_row, FOLDED, names, 1)
            self.refused(NoPasses, settled, FOLDED, names)

    def test_no_name(self):
        for name in ("plug", "Fold", "", None, True, 0, ["fold"], ("fold",), [], {}, *NOWHERE_RIGHT):
            self.refused(NoPasses, commute, FOLDED, name, "fold")
            self.refused(NoPasses, commute, FOLDED, "fold", name)
            self.refused(NoPasses, commute, FOLDED, name, name)

    def test_no_number(self):
        for many in NO_MANY:
            self.refused(NoNumber, best_row, FOLDED, ["fold"], many)

    def test_no_passes_come_ahead_of_no_number(self):
        for names in NO_NAMES:
            for many in NO_MANY:
                self.refused(NoPasses, best_row, FOLDED, names, many)

    def test_bounds(self):
        for many in range(5):
            best_row(FOLDED, ["fold"], many)
        for length in (1, 2, 3, 4):
            best_row(FOLDED, list(OWN[:length]), 1)
            settled(FOLDED, list(OWN[:length]))

    def test_what_is_handed_in_is_not_changed(self):
        names = ["skip", "fold", "dead"]
        best_row(FOLDED, names, 2)
        settled(FOLDED, names)
        self.assertEqual(names, ["skip", "fold", "dead"])


if __name__ == "__main__":
    unittest.main()
