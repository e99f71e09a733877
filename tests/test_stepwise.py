"""The passes fold, spread, reuse and dead, step by step."""

import unittest

from asking import PassTest
from made import UNREACHED, ring, straight, two_ways
from passmill.halves import after
from samples import one_block

SUM_WORDS = ("add", "sub", "mul", "less", "same")


class FoldTest(PassTest):
    def test_copies_and_sums_of_known_places(self):
        self.makes_steps(
            "fold",
            [("set", "x", 7), ("set", "y", 9), ("copy", "a", "x"), ("add", "b", "x", "y"), ("sub", "c", "x", "y"),
             ("mul", "d", "x", "y"), ("less", "e", "x", "y"), ("less", "f", "y", "x"), ("same", "g", "x", "x"),
             ("same", "h", "x", "y")],
            [("set", "x", 7), ("set", "y", 9), ("set", "a", 7), ("set", "b", 16), ("set", "c", 9971),
             ("set", "d", 63), ("set", "e", 1), ("set", "f", 0), ("set", "g", 1), ("set", "h", 0)],
        )

    def test_modulo(self):
        self.makes_steps(
            "fold",
            [("set", "x", 9972), ("add", "a", "x", "x"), ("mul", "b", "x", "x"), ("sub", "c", "y", "x")],
            [("set", "x", 9972), ("set", "a", 9971), ("set", "b", 1), ("set", "c", 1)],
        )

    def test_places_never_written_bear_0(self):
        self.makes_steps(
            "fold",
            [("copy", "a", "x"), ("copy", "x", "x"), ("add", "b", "x", "y"), ("same", "c", "x", "y")],
            [("set", "a", 0), ("set", "x", 0), ("set", "b", 0), ("set", "c", 1)],
        )

    def test_unknown_places(self):
        steps = [("get", "x"), ("copy", "y", "x"), ("sub", "a", "x", "x"), ("same", "b", "x", "y"),
                 ("mul", "c", "x", "n"), ("mul", "d", "n", "x"), ("less", "e", "x", "n")]
        self.makes_steps("fold", steps, steps)

    def test_what_was_folded_ahead_is_known(self):
        self.makes_steps(
            "fold",
            [("set", "x", 2), ("add", "x", "x", "x"), ("mul", "y", "x", "x"), ("get", "x"), ("copy", "z", "x"),
             ("copy", "x", "y"), ("add", "x", "x", "y")],
            [("set", "x", 2), ("set", "x", 4), ("set", "y", 16), ("get", "x"), ("copy", "z", "x"),
             ("set", "x", 16), ("set", "x", 32)],
        )

    def test_set_get_put_and_ends_are_left(self):
        steps = [("set", "x", 3), ("set", "x", 3), ("get", "y"), ("put", "x"), ("put", "n")]
        self.makes_steps("fold", steps, steps, ("if", "x", "a", "a"))

    def test_known_from_other_blocks(self):
        self.makes(
            "fold",
            two_ways([("set", "k", 5), ("copy", "j", "k")], [("set", "y", 1)], [("add", "y", "j", "z")]),
            two_ways([("set", "k", 5), ("set", "j", 5)], [("set", "y", 1)], [("set", "y", 5)]),
        )

    def test_where_ways_meet(self):
        def asking(left, right):
            ahead, *ways, behind = two_ways([("get", "q")], left, right)
            return (ahead, *ways, (behind[0], (("copy", "a", "y"),), behind[2]))

        same = asking([("set", "y", 4)], [("set", "y", 4)])
        self.makes("fold", same, (*same[:3], ("d", (("set", "a", 4),), ("stop",))))
        self.leaves("fold", asking([("set", "y", 4)], [("set", "y", 3)]))
        self.leaves("fold", asking([("set", "y", 4)], []))

    def test_rings(self):
        self.leaves("fold", ring([("set", "x", 1), ("set", "one", 1)], [("add", "x", "x", "one")]))
        self.makes(
            "fold",
            ring([("set", "x", 1)], [("copy", "y", "x"), ("mul", "x", "x", "y")]),
            ring([("set", "x", 1)], [("set", "y", 1), ("set", "x", 1)]),
        )

    def test_blocks_not_reached_are_left(self):
        steps = (("set", "x", 1), ("copy", "y", "x"), ("add", "z", "y", "x"))
        self.makes(
            "fold",
            (("b", steps, ("stop",)), ("a", steps, ("go", "b"))),
            (("b", (("set", "x", 1), ("set", "y", 1), ("set", "z", 2)), ("stop",)), ("a", steps, ("go", "b"))),
        )
        self.leaves("fold", UNREACHED)


class SpreadTest(PassTest):
    def test_each_word_that_reads(self):
        copied = [("get", "y"), ("copy", "x", "y")]
        for word in SUM_WORDS:
            self.makes_steps("spread", [*copied, (word, "a", "x", "x")], [*copied, (word, "a", "y", "y")])
            self.makes_steps("spread", [*copied, (word, "a", "x", "b")], [*copied, (word, "a", "y", "b")])
            self.makes_steps("spread", [*copied, (word, "a", "b", "x")], [*copied, (word, "a", "b", "y")])
            self.makes_steps("spread", [*copied, (word, "x", "x", "b")], [*copied, (word, "x", "y", "b")])
        self.makes_steps("spread", [*copied, ("copy", "a", "x")], [*copied, ("copy", "a", "y")])
        self.makes_steps("spread", [*copied, ("put", "x")], [*copied, ("put", "y")])

    def test_what_is_written_is_left(self):
        steps = [("copy", "x", "y"), ("get", "x"), ("copy", "x", "y"), ("set", "x", 1), ("copy", "x", "y"),
                 ("add", "x", "a", "b")]
        self.makes_steps("spread", steps, steps)

    def test_an_end_that_reads(self):
        steps = [("get", "y"), ("copy", "x", "y")]
        ends = [(("b", (), ("stop",)),), (("c", (), ("stop",)),)]
        rest = ends[0] + ends[1]
        self.makes(
            "spread",
            (("a", tuple(steps), ("if", "x", "b", "c")), *rest),
            (("a", tuple(steps), ("if", "y", "b", "c")), *rest),
        )

    def test_names_of_blocks_are_left(self):
        steps = (("get", "y"), ("copy", "x", "y"))
        for end in (("go", "x"), ("if", "z", "x", "x")):
            self.leaves("spread", (("x", steps, end),))

    def test_a_copy_of_a_copy(self):
        # The steps are gone through as they were: z is a copy of y, though it is read from x.
        self.makes_steps(
            "spread",
            [("get", "x"), ("copy", "y", "x"), ("copy", "z", "y"), ("put", "z"), ("put", "y"), ("add", "s", "z", "y")],
            [("get", "x"), ("copy", "y", "x"), ("copy", "z", "x"), ("put", "y"), ("put", "x"), ("add", "s", "y", "x")],
        )

    def test_copies_as_the_steps_were(self):
        self.makes_steps(
            "spread",
            [("copy", "y", "x"), ("copy", "z", "y"), ("get", "y"), ("put", "z")],
            [("copy", "y", "x"), ("copy", "z", "x"), ("get", "y"), ("put", "z")],
        )
        self.makes_steps(
            "spread",
            [("copy", "y", "x"), ("copy", "z", "y"), ("get", "x"), ("put", "z")],
            [("copy", "y", "x"), ("copy", "z", "x"), ("get", "x"), ("put", "y")],
        )

    def test_copies_back_and_forth(self):
        self.makes_steps(
            "spread",
            [("copy", "x", "y"), ("copy", "y", "x"), ("put", "x"), ("put", "y")],
            [("copy", "x", "y"), ("copy", "y", "y"), ("put", "x"), ("put", "x")],
        )

    def test_a_place_written_since(self):
        for written in (("get", "x"), ("get", "y"), ("set", "x", 1), ("set", "y", 1), ("add", "y", "a", "b"),
                        ("copy", "y", "w"), ("copy", "x", "x")):
            steps = [("copy", "x", "y"), written, ("put", "x")]
            told = after(one_block(steps), ["spread"], plugs=[])[0][1]
            self.assertEqual(told[2], ("put", "x"), written)
        self.makes_steps("spread", [("copy", "x", "x"), ("put", "x")], [("copy", "x", "x"), ("put", "x")])

    def test_known_from_other_blocks(self):
        self.makes(
            "spread",
            ring([("get", "y"), ("copy", "x", "y")], [("put", "x"), ("get", "x"), ("copy", "x", "y")]),
            ring([("get", "y"), ("copy", "x", "y")], [("put", "y"), ("get", "x"), ("copy", "x", "y")]),
        )
        self.leaves("spread", ring([("get", "y"), ("copy", "x", "y")], [("put", "x"), ("get", "x")]))

    def test_blocks_not_reached_are_left(self):
        steps = (("copy", "x", "y"), ("put", "x"))
        self.makes(
            "spread",
            (("z", steps, ("stop",)), ("b", steps, ("if", "x", "z", "b"))),
            (("z", (("copy", "x", "y"), ("put", "y")), ("stop",)), ("b", steps, ("if", "x", "z", "b"))),
        )


class ReuseTest(PassTest):
    def test_a_sum_that_stands_already(self):
        for word in SUM_WORDS:
            self.makes_steps(
                "reuse",
                [(word, "a", "x", "y"), ("put", "a"), (word, "b", "x", "y")],
                [(word, "a", "x", "y"), ("put", "a"), ("copy", "b", "a")],
            )
            self.makes_steps(
                "reuse", [(word, "a", "x", "x"), (word, "b", "x", "x")], [(word, "a", "x", "x"), ("copy", "b", "a")]
            )

    def test_other_sums(self):
        steps = [("add", "a", "x", "y"), ("sub", "b", "x", "y"), ("add", "c", "y", "x"), ("add", "d", "x", "x"),
                 ("mul", "e", "x", "y"), ("copy", "f", "x"), ("add", "g", "f", "y")]
        self.makes_steps("reuse", steps, steps)

    def test_places_written_since(self):
        for written in (("get", "x"), ("get", "y"), ("get", "a"), ("set", "x", 1), ("copy", "y", "z"),
                        ("copy", "a", "a"), ("sub", "a", "p", "q"), ("add", "x", "x", "y")):
            steps = [("add", "a", "x", "y"), written, ("add", "b", "x", "y")]
            told = after(one_block(steps), ["reuse"], plugs=[])[0][1]
            self.assertEqual(told[2], steps[2], written)

    def test_a_sum_into_the_place_in_which_it_stands(self):
        self.makes_steps(
            "reuse",
            [("add", "a", "x", "y"), ("add", "a", "x", "y"), ("add", "b", "x", "y")],
            [("add", "a", "x", "y"), ("copy", "a", "a"), ("copy", "b", "a")],
        )

    def test_the_same_sum_in_two_places(self):
        self.makes_steps(
            "reuse",
            [("add", "a", "x", "y"), ("add", "b", "x", "y"), ("add", "c", "x", "y")],
            [("add", "a", "x", "y"), ("copy", "b", "a"), ("copy", "c", "b")],
        )
        self.makes_steps(
            "reuse",
            [("add", "a", "x", "y"), ("add", "b", "x", "y"), ("get", "b"), ("add", "c", "x", "y")],
            [("add", "a", "x", "y"), ("copy", "b", "a"), ("get", "b"), ("add", "c", "x", "y")],
        )

    def test_sums_into_one_of_their_own(self):
        self.makes_steps(
            "reuse",
            [("add", "a", "x", "y"), ("add", "x", "x", "y"), ("add", "b", "x", "y")],
            [("add", "a", "x", "y"), ("copy", "x", "a"), ("add", "b", "x", "y")],
        )
        steps = [("add", "x", "x", "y"), ("add", "b", "x", "y"), ("add", "y", "p", "y"), ("add", "c", "p", "y")]
        self.makes_steps("reuse", steps, steps)

    def test_known_from_other_blocks(self):
        self.makes(
            "reuse",
            straight([("mul", "a", "x", "y")])[:1] + (("b", (("mul", "b", "x", "y"),), ("stop",)),),
            straight([("mul", "a", "x", "y")])[:1] + (("b", (("copy", "b", "a"),), ("stop",)),),
        )
        self.makes(
            "reuse",
            ring([("add", "a", "x", "y")], [("add", "b", "x", "y"), ("add", "a", "x", "y")]),
            ring([("add", "a", "x", "y")], [("copy", "b", "a"), ("copy", "a", "b")]),
        )
        self.leaves("reuse", ring([("add", "a", "x", "y")], [("add", "b", "x", "y")]))
        self.leaves("reuse", ring([("add", "a", "x", "y")], [("add", "b", "x", "y"), ("get", "y")]))

    def test_blocks_not_reached_are_left(self):
        steps = (("add", "a", "x", "y"), ("add", "b", "x", "y"))
        self.makes(
            "reuse",
            (("z", steps, ("stop",)), ("b", steps, ("go", "z")), ("a", steps, ("stop",))),
            (("z", (steps[0], ("copy", "b", "a")), ("stop",)), ("b", steps, ("go", "z")), ("a", steps, ("stop",))),
        )


class DeadTest(PassTest):
    def test_set_copy_and_sums_not_read(self):
        for step in (("set", "x", 1), ("copy", "x", "y"), *((word, "x", "y", "z") for word in SUM_WORDS)):
            self.makes_steps("dead", [step], [])
            self.makes_steps("dead", [("get", "y"), step, ("put", "y")], [("get", "y"), ("put", "y")])
            self.makes_steps("dead", [step, ("get", "x"), ("put", "x")], [("get", "x"), ("put", "x")])
            self.makes_steps("dead", [step, ("put", "x")], [step, ("put", "x")])
            self.makes_steps("dead", [step, ("set", "x", 3), ("put", "x")], [("set", "x", 3), ("put", "x")])

    def test_get_and_put_stay(self):
        steps = [("get", "x"), ("get", "x"), ("get", "y"), ("put", "x"), ("put", "z"), ("get", "x")]
        self.makes_steps("dead", steps, steps)

    def test_a_get_writes(self):
        self.makes_steps("dead", [("set", "x", 1), ("get", "x"), ("put", "x")], [("get", "x"), ("put", "x")])

    def test_copies_of_a_place_to_itself(self):
        self.makes_steps("dead", [("get", "x"), ("copy", "x", "x"), ("put", "x")], [("get", "x"), ("put", "x")])
        self.makes_steps("dead", [("copy", "x", "x")], [])
        self.makes_steps(
            "dead", [("set", "x", 1), ("copy", "x", "x"), ("get", "x"), ("put", "x")], [("get", "x"), ("put", "x")]
        )
        self.makes_steps("dead", [("set", "x", 1), ("copy", "x", "x"), ("put", "x")], [("set", "x", 1), ("put", "x")])

    def test_what_only_a_step_reads_that_is_left_out(self):
        self.makes_steps("dead", [("set", "x", 1), ("copy", "y", "x"), ("add", "z", "y", "x")], [])
        self.makes_steps(
            "dead",
            [("set", "x", 1), ("copy", "y", "x"), ("add", "y", "y", "y"), ("set", "y", 2), ("put", "y")],
            [("set", "y", 2), ("put", "y")],
        )
        self.makes_steps(
            "dead", [("set", "x", 1), ("add", "x", "x", "x"), ("put", "y")], [("put", "y")]
        )

    def test_a_step_that_reads_what_it_writes(self):
        steps = [("set", "x", 1), ("add", "x", "x", "x"), ("put", "x")]
        self.makes_steps("dead", steps, steps)

    def test_ends_read(self):
        for end in (("if", "x", "a", "a"), ("if", "x", "b", "a")):
            program = (("a", (("set", "x", 1), ("set", "y", 2)), end), ("b", (), ("stop",)))
            self.makes("dead", program, (("a", (("set", "x", 1),), end), program[1]))

    def test_read_behind_a_ring(self):
        program = (
            ("a", (("set", "x", 1), ("set", "y", 2)), ("go", "b")),
            ("b", (("get", "q"),), ("if", "q", "b", "c")),
            ("c", (("put", "x"),), ("stop",)),
        )
        self.makes("dead", program, (("a", (("set", "x", 1),), ("go", "b")), *program[1:]))

    def test_read_in_the_next_round(self):
        self.leaves("dead", ring([("set", "x", 1)], [("put", "x"), ("set", "x", 2)]))
        self.makes(
            "dead",
            ring([("set", "x", 1)], [("set", "x", 3), ("put", "x"), ("set", "x", 2)]),
            ring([], [("set", "x", 3), ("put", "x")]),
        )

    def test_dead_steps_of_other_blocks_still_read(self):
        # What is read behind the end is told by the fact, of the program as it was.
        program = (("a", (("set", "x", 1),), ("go", "b")), ("b", (("copy", "y", "x"),), ("stop",)))
        once = (("a", (("set", "x", 1),), ("go", "b")), ("b", (), ("stop",)))
        self.makes("dead", program, once)
        self.makes("dead", once, (("a", (), ("go", "b")), ("b", (), ("stop",))))
        self.leaves("dead", ring([], [("add", "x", "x", "one")]))

    def test_one_way_is_enough(self):
        self.makes(
            "dead",
            (("a", (("set", "x", 1), ("set", "y", 1)), ("if", "q", "b", "c")), ("b", (("put", "x"),), ("stop",)),
             ("c", (("set", "x", 2), ("get", "y"), ("put", "y")), ("stop",))),
            (("a", (("set", "x", 1),), ("if", "q", "b", "c")), ("b", (("put", "x"),), ("stop",)),
             ("c", (("get", "y"), ("put", "y")), ("stop",))),
        )

    def test_blocks_not_reached_too(self):
        self.makes(
            "dead",
            (("z", (("put", "x"),), ("stop",)), ("a", (("set", "x", 1), ("set", "y", 1)), ("go", "z"))),
            (("z", (("put", "x"),), ("stop",)), ("a", (("set", "x", 1),), ("go", "z"))),
        )


if __name__ == "__main__":
    unittest.main()
