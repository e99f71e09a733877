"""The passes bend, prune, join and skip, block by block."""

import unittest

from asking import PassTest
from made import DIAMOND, RINGS, UNREACHED
from samples import ROUND, STOP, one_block

B = ("b", (("put", "x"),), ("stop",))
C = ("c", (("put", "y"),), ("stop",))


def puts(many):
    """So many steps."""
    return (("put", "x"),) * many


class BendTest(PassTest):
    def bends(self, steps, end, expected):
        self.makes("bend", (("a", tuple(steps), end), B, C), (("a", tuple(steps), expected), B, C))

    def test_a_known_place(self):
        self.bends([("set", "x", 1)], ("if", "x", "b", "c"), ("go", "b"))
        self.bends([("set", "x", 9972)], ("if", "x", "b", "c"), ("go", "b"))
        self.bends([("set", "x", 0)], ("if", "x", "b", "c"), ("go", "c"))
        self.bends([], ("if", "x", "b", "c"), ("go", "c"))
        self.bends([("set", "y", 3), ("same", "x", "y", "y")], ("if", "x", "b", "c"), ("go", "b"))
        self.bends([("set", "y", 3), ("less", "x", "y", "y")], ("if", "x", "b", "c"), ("go", "c"))
        self.bends([("get", "x"), ("set", "x", 2)], ("if", "x", "c", "b"), ("go", "c"))

    def test_an_unknown_place(self):
        for steps in ([("get", "x")], [("set", "x", 1), ("get", "x")], [("get", "y"), ("copy", "x", "y")]):
            self.bends(steps, ("if", "x", "b", "c"), ("if", "x", "b", "c"))

    def test_both_ways_to_one_block(self):
        self.bends([("get", "x")], ("if", "x", "b", "b"), ("go", "b"))
        self.bends([("set", "x", 1)], ("if", "x", "b", "b"), ("go", "b"))
        self.bends([], ("if", "x", "c", "c"), ("go", "c"))
        self.makes("bend", one_block([("get", "x")], ("if", "x", "a", "a")), one_block([("get", "x")], ("go", "a")))

    def test_other_ends_and_all_steps_are_left(self):
        self.bends([("copy", "x", "y"), ("set", "x", 1)], ("go", "b"), ("go", "b"))
        self.bends([("set", "x", 1)], ("stop",), ("stop",))

    def test_blocks_not_reached(self):
        # Nothing is known there, not even that places bear 0; both ways to one block need nothing known.
        block = ("d", (("set", "x", 1),), ("if", "x", "b", "c"))
        self.leaves("bend", (("a", (), ("stop",)), B, C, block))
        self.leaves("bend", (("a", (), ("stop",)), B, C, ("d", (), ("if", "x", "b", "c"))))
        self.makes(
            "bend",
            (("a", (), ("stop",)), B, ("d", (("set", "x", 1),), ("if", "x", "b", "b"))),
            (("a", (), ("stop",)), B, ("d", (("set", "x", 1),), ("go", "b"))),
        )
        self.leaves("bend", UNREACHED)

    def test_known_from_other_blocks(self):
        self.makes(
            "bend",
            (("z", (("set", "x", 1),), ("go", "a")), ("a", (), ("if", "x", "b", "c")), B, C),
            (("z", (("set", "x", 1),), ("go", "a")), ("a", (), ("go", "b")), B, C),
        )
        self.leaves("bend", DIAMOND)

    def test_rings(self):
        self.leaves("bend", (("a", (), ("go", "b")), ("b", (("get", "x"),), ("if", "x", "b", "a"))))
        self.makes(
            "bend",
            (("a", (("get", "y"),), ("if", "x", "b", "a")), ("b", (), ("go", "a"))),
            (("a", (("get", "y"),), ("go", "a")), ("b", (), ("go", "a"))),
        )

    def test_what_is_bent_is_known_only_next_time(self):
        # c leads to b by a way that is only found not to be gone while the ends are bent.
        program = (
            ("a", (), ("if", "x", "c", "b")),
            ("b", (), ("if", "y", "b", "d")),
            ("c", (("set", "y", 1),), ("go", "b")),
            ("d", (), ("stop",)),
        )
        once = (("a", (), ("go", "b")), *program[1:])
        self.makes("bend", program, once)
        self.makes("bend", once, (once[0], ("b", (), ("go", "d")), *once[2:]))


class PruneTest(PassTest):
    def test_none(self):
        for program in (STOP, ROUND, DIAMOND, RINGS):
            self.leaves("prune", program)

    def test_blocks_not_reached(self):
        self.makes("prune", UNREACHED, UNREACHED[:2])
        self.makes("prune", (*STOP, ("b", (), ("go", "a"))), STOP)

    def test_rings_of_them(self):
        self.makes("prune", (("a", (), ("stop",)), ("b", (), ("go", "c")), ("c", (), ("go", "b"))), STOP)
        self.makes("prune", (("a", (), ("stop",)), ("b", (), ("go", "b"))), STOP)

    def test_the_order_stays(self):
        reached = (("z", (), ("if", "x", "m", "b")), ("m", (), ("stop",)), ("b", (), ("go", "m")))
        mixed = (reached[0], ("a", (), ("go", "z")), reached[1], ("c", (), ("go", "a")), reached[2])
        self.makes("prune", mixed, reached)

    def test_ways_that_are_never_gone_count(self):
        self.leaves("prune", (("a", (("set", "x", 1),), ("if", "x", "b", "c")), B, C))


class JoinTest(PassTest):
    def test_a_pair(self):
        self.makes(
            "join",
            (("a", puts(1), ("go", "b")), ("b", (("get", "y"),), ("if", "y", "a", "c")), C),
            (("a", (*puts(1), ("get", "y")), ("if", "y", "a", "c")), C),
        )

    def test_chains(self):
        self.makes(
            "join",
            (("a", puts(1), ("go", "b")), ("b", (("get", "y"),), ("go", "c")), ("c", puts(2), ("stop",))),
            (("a", (*puts(1), ("get", "y"), *puts(2)), ("stop",)),),
        )
        names = "abcdefghijkl"
        chain = tuple((name, (("set", name, at),), ("go", to))
                      for at, (name, to) in enumerate(zip(names, names[1:])))
        steps = tuple(("set", name, at) for at, name in enumerate(names))
        self.makes("join", (*chain, ("l", (("set", "l", 11),), ("stop",))), (("a", steps, ("stop",)),))
        self.makes("join", (*chain[:1], ("l", (("set", "l", 11),), ("stop",)), *chain[:0:-1]),
                   (("a", steps, ("stop",)),))

    def test_a_block_that_goes_to_itself(self):
        self.leaves("join", ROUND)
        self.leaves("join", (("a", (), ("if", "x", "a", "b")), ("b", (), ("go", "b"))))
        self.makes("join", (("a", (), ("go", "b")), ("b", (), ("stop",)), ("c", (), ("go", "c"))),
                   (("a", (), ("stop",)), ("c", (), ("go", "c"))))

    def test_what_goes_to_the_first_one(self):
        self.leaves("join", (("a", (), ("stop",)), ("b", puts(1), ("go", "a"))))
        self.makes("join", (("b", (), ("go", "a")), ("a", puts(1), ("go", "b"))), (("b", puts(1), ("go", "b")),))

    def test_something_else_leads_there(self):
        self.leaves("join", DIAMOND)
        self.leaves("join", (("a", (), ("go", "b")), B, ("c", (), ("go", "b"))))
        self.leaves("join", (("a", (), ("go", "b")), B, ("c", (), ("if", "x", "c", "b"))))
        # The block itself leads to itself.
        self.leaves("join", (("a", (), ("go", "b")), ("b", (), ("if", "x", "b", "c")), C))
        self.leaves("join", (("a", (), ("go", "b")), ("b", (), ("go", "b"))))

    def test_only_go_goes(self):
        self.leaves("join", (("a", (), ("if", "x", "b", "b")), B))
        self.leaves("join", (("a", (), ("if", "x", "b", "a")), B))

    def test_blocks_not_reached_are_joined_too(self):
        self.makes("join", (*STOP, ("b", puts(1), ("go", "c")), ("c", puts(1), ("go", "b"))),
                   (*STOP, ("b", puts(2), ("go", "b"))))
        self.makes("join", (*STOP, ("c", puts(1), ("go", "b")), ("b", (), ("go", "c"))),
                   (*STOP, ("c", puts(1), ("go", "c"))))

    def test_how_many_steps_together(self):
        for left, right in ((8, 8), (16, 0), (0, 16), (15, 1)):
            self.makes("join", (("a", puts(left), ("go", "b")), ("b", puts(right), ("stop",))),
                       (("a", puts(16), ("stop",)),))
        for left, right in ((9, 8), (16, 1), (1, 16), (16, 16)):
            self.leaves("join", (("a", puts(left), ("go", "b")), ("b", puts(right), ("stop",))))

    def test_past_what_is_too_long(self):
        self.makes(
            "join",
            (("a", puts(10), ("go", "b")), ("b", puts(7), ("go", "c")), ("c", puts(9), ("stop",))),
            (("a", puts(10), ("go", "b")), ("b", puts(16), ("stop",))),
        )

    def test_the_first_pair_by_the_order_of_the_program(self):
        # a with b has 16 steps, so c is left; were b joined with c first, it would have 14.
        chain = (("a", puts(8), ("go", "b")), ("b", puts(8), ("go", "c")), ("c", puts(6), ("stop",)))
        self.makes("join", chain, (("a", puts(16), ("go", "c")), chain[2]))
        self.makes("join", (("z", (), ("if", "x", "a", "z")), chain[1], chain[0], chain[2]),
                   (("z", (), ("if", "x", "a", "z")), ("b", puts(14), ("stop",)), chain[0]))

    def test_again_from_the_first(self):
        # b with c comes first and is too long for a then.
        program = (("z", (), ("if", "x", "b", "z")), ("b", puts(2), ("go", "c")), ("d", puts(13), ("stop",)),
                   ("c", puts(1), ("go", "d")))
        self.makes("join", program, (program[0], ("b", puts(16), ("stop",))))

    def test_the_order_and_place_of_the_blocks(self):
        self.makes(
            "join",
            (("z", (), ("if", "x", "m", "y")), ("k", puts(1), ("stop",)), ("m", (), ("go", "k")),
             ("y", (), ("go", "w")), ("w", puts(2), ("go", "z"))),
            (("z", (), ("if", "x", "m", "y")), ("m", puts(1), ("stop",)), ("y", puts(2), ("go", "z"))),
        )


class SkipTest(PassTest):
    def test_one(self):
        self.makes(
            "skip",
            (("a", puts(1), ("go", "b")), ("b", (), ("go", "c")), C),
            (("a", puts(1), ("go", "c")), ("b", (), ("go", "c")), C),
        )

    def test_chains(self):
        self.makes(
            "skip",
            (("a", (), ("go", "e")), ("b", (), ("go", "c")), C, ("d", (), ("go", "b")), ("e", (), ("go", "d"))),
            (("a", (), ("go", "c")), ("b", (), ("go", "c")), C, ("d", (), ("go", "c")), ("e", (), ("go", "c"))),
        )

    def test_both_ways_of_an_if(self):
        rest = (("b", (), ("go", "d")), ("c", (), ("go", "e")), ("d", puts(1), ("stop",)), ("e", puts(2), ("stop",)))
        self.makes("skip", (("a", (), ("if", "x", "b", "c")), *rest), (("a", (), ("if", "x", "d", "e")), *rest))
        self.makes("skip", (("a", (), ("if", "x", "b", "d")), *rest), (("a", (), ("if", "x", "d", "d")), *rest))
        self.makes("skip", (("a", (), ("if", "b", "e", "c")), *rest), (("a", (), ("if", "b", "e", "e")), *rest))

    def test_what_does_not_go_on(self):
        for block in (B, ("b", (), ("stop",)), ("b", (), ("if", "x", "c", "c")), ("b", puts(1), ("go", "c"))):
            self.leaves("skip", (("a", (), ("go", "b")), block, C))
        self.leaves("skip", STOP)

    def test_rings(self):
        self.leaves("skip", ROUND)
        self.leaves("skip", (("a", (), ("go", "b")), ("b", (), ("go", "b"))))
        self.leaves("skip", (("a", (), ("go", "b")), ("b", (), ("go", "a"))))
        self.leaves("skip", (("a", (), ("go", "b")), ("b", (), ("go", "c")), ("c", (), ("go", "a"))))
        self.leaves("skip", (("z", (), ("if", "x", "b", "c")), ("b", (), ("go", "c")), ("c", (), ("go", "b"))))

    def test_a_chain_into_a_ring(self):
        # b and c lead to the ring of d and e; d is the first that would come again.
        ring = (("d", (), ("go", "e")), ("e", (), ("go", "d")))
        self.makes(
            "skip",
            (("a", (), ("if", "x", "b", "e")), ("b", (), ("go", "c")), ("c", (), ("go", "d")), *ring),
            (("a", (), ("if", "x", "d", "e")), ("b", (), ("go", "d")), ("c", (), ("go", "d")), *ring),
        )
        self.makes(
            "skip",
            (("a", puts(1), ("go", "b")), ("b", (), ("go", "c")), ("c", (), ("go", "c"))),
            (("a", puts(1), ("go", "c")), ("b", (), ("go", "c")), ("c", (), ("go", "c"))),
        )

    def test_the_first_block_being_such_a_one(self):
        self.makes(
            "skip",
            (("a", (), ("go", "b")), ("b", puts(1), ("if", "x", "a", "c")), C),
            (("a", (), ("go", "b")), ("b", puts(1), ("if", "x", "b", "c")), C),
        )

    def test_blocks_not_reached_too(self):
        self.makes(
            "skip",
            (("a", puts(1), ("stop",)), ("b", (), ("go", "a")), ("c", puts(1), ("go", "b")), ("d", (), ("go", "b"))),
            (("a", puts(1), ("stop",)), ("b", (), ("go", "a")), ("c", puts(1), ("go", "a")), ("d", (), ("go", "a"))),
        )


if __name__ == "__main__":
    unittest.main()
