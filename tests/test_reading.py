import unittest

import oracles
from made import BOTH, DIAMOND, FALLING, MADE, NAMESAKES, OWN, RINGS, SHAPES, UNREACHED, ring
from passmill.facts import fact
from passmill.programs import places_of
from samples import ALL_WORDS, ROUND, STOP, one_block


class UsesTest(unittest.TestCase):
    def told(self, program, uses):
        self.assertEqual(fact(program, "uses"), uses)

    def test_none(self):
        self.told(STOP, ())
        self.told(ROUND, ())

    def test_each_word_of_a_step(self):
        for step, uses in (
            (("set", "x", 1), (("x", 0),)),
            (("copy", "x", "y"), (("x", 0), ("y", 1))),
            (("get", "x"), (("x", 0),)),
            (("put", "x"), (("x", 1),)),
        ):
            self.told(one_block([step]), uses)
        for word in ("add", "sub", "mul", "less", "same"):
            self.told(one_block([(word, "x", "y", "z")]), (("x", 0), ("y", 1), ("z", 1)))

    def test_each_end(self):
        self.told(one_block([], ("if", "x", "a", "a")), (("x", 1),))
        self.told(one_block([("get", "x")], ("go", "a")), (("x", 0),))
        self.told(one_block([("get", "x")], ("stop",)), (("x", 0),))

    def test_read_twice_by_one_step(self):
        self.told(one_block([("mul", "x", "y", "y")]), (("x", 0), ("y", 2)))
        self.told(one_block([("mul", "x", "x", "x")]), (("x", 2),))
        self.told(one_block([("copy", "x", "x")]), (("x", 1),))

    def test_only_written(self):
        self.told(one_block([("set", "x", 1), ("get", "x"), ("set", "x", 0)]), (("x", 0),))

    def test_read_by_many(self):
        steps = [("put", "x"), ("add", "y", "x", "x"), ("copy", "z", "x")]
        self.told(one_block(steps, ("if", "x", "a", "a")), (("x", 5), ("y", 0), ("z", 0)))

    def test_several_blocks_and_rings(self):
        self.told(ALL_WORDS, (
            ("d", 2), ("e", 1), ("l", 1), ("m", 1), ("one", 1), ("s", 1), ("x", 6), ("y", 2),
        ))
        self.told(DIAMOND, (("x", 1), ("y", 1)))
        self.told(RINGS, (("x", 4), ("y", 2)))
        self.told(FALLING, (("s", 0), ("x", 3), ("y", 3)))
        self.told(OWN, (("x", 1),))
        self.told(BOTH, (("x", 1),))

    def test_blocks_are_no_places(self):
        self.told(NAMESAKES, (("a", 2), ("b", 3), ("c", 1)))

    def test_blocks_that_are_not_reached_count(self):
        self.told(UNREACHED, (("u", 1), ("v", 1), ("w", 1), ("x", 2)))

    def test_rising(self):
        steps = [("put", name) for name in ("b", "ab", "aa", "a", "b", "aaa")]
        self.told(one_block(steps), (("a", 1), ("aa", 1), ("aaa", 1), ("ab", 1), ("b", 2)))

    def test_made_programs(self):
        for program in (*SHAPES, *MADE):
            read = [place for name, steps, end in program for row in (*steps, end) for place in oracles.reads(row)]
            self.told(program, tuple((place, read.count(place)) for place in places_of(program)))


class LiveTest(unittest.TestCase):
    def told(self, program, live):
        self.assertEqual(fact(program, "live"), live)

    def start(self, steps, places, end=("stop",)):
        self.told(one_block(steps, end), (("a", places, ()),))

    def test_none(self):
        self.told(STOP, (("a", (), ()),))
        self.told(ROUND, (("a", (), ()),))

    def test_each_word_reads(self):
        self.start([("put", "x")], ("x",))
        self.start([("copy", "x", "y")], ("y",))
        self.start([("set", "x", 1)], ())
        self.start([("get", "x")], ())
        for word in ("add", "sub", "mul", "less", "same"):
            self.start([(word, "x", "z", "y")], ("y", "z"))

    def test_read_before_it_is_written(self):
        self.start([("put", "x"), ("get", "x"), ("put", "x")], ("x",))
        self.start([("add", "x", "x", "y")], ("x", "y"))
        self.start([("copy", "x", "x")], ("x",))

    def test_written_and_read_in_the_same_block(self):
        for write in (("set", "x", 1), ("get", "x"), ("copy", "x", "y"), ("add", "x", "y", "y")):
            self.start([write, ("put", "x")], ("y",) if "y" in write else ())

    def test_read_by_the_end_alone(self):
        self.told(one_block([], ("if", "x", "a", "a")), (("a", ("x",), ("x",)),))
        self.told(one_block([("get", "x")], ("if", "x", "a", "a")), (("a", (), ()),))
        self.told(BOTH, (("a", (), ()), ("b", (), ())))
        self.told((("a", (), ("if", "x", "b", "b")), ("b", (), ("stop",))), (("a", ("x",), ()), ("b", (), ())))

    def test_behind_the_end_is_not_what_the_end_reads(self):
        program = (("a", (), ("if", "x", "b", "c")), ("b", (("put", "y"),), ("stop",)), ("c", (), ("stop",)))
        self.told(program, (("a", ("x", "y"), ("y",)), ("b", ("y",), ()), ("c", (), ())))

    def test_read_only_behind_a_ring(self):
        program = (
            ("a", (("get", "x"),), ("go", "b")),
            ("b", (("get", "q"),), ("if", "q", "b", "c")),
            ("c", (("put", "x"), ("put", "w")), ("stop",)),
        )
        self.told(program, (("a", ("w",), ("w", "x")), ("b", ("w", "x"), ("w", "x")), ("c", ("w", "x"), ())))

    def test_read_by_the_next_round_alone(self):
        self.told(ring([], [("put", "x"), ("get", "x"), ("get", "q")]), (
            ("a", ("x",), ("x",)), ("b", ("x",), ("x",)), ("c", (), ()),
        ))

    def test_written_on_one_way_alone(self):
        program = (
            ("a", (), ("if", "q", "b", "c")),
            ("b", (("set", "x", 1),), ("go", "d")),
            ("c", (), ("go", "d")),
            ("d", (("put", "x"),), ("stop",)),
        )
        self.told(program, (("a", ("q", "x"), ("x",)), ("b", (), ("x",)), ("c", ("x",), ("x",)), ("d", ("x",), ())))

    def test_several_blocks_and_rings(self):
        self.told(DIAMOND, (("a", (), ()), ("b", (), ("y",)), ("c", (), ("y",)), ("d", ("y",), ())))
        self.told(RINGS, (
            ("a", ("y",), ("y",)),
            ("b", ("y",), ("x", "y")),
            ("c", ("x", "y"), ("x", "y")),
            ("d", ("x", "y"), ("x", "y")),
            ("e", ("y",), ("y",)),
            ("f", ("x",), ()),
        ))

    def test_rising_whatever_the_order_of_the_blocks(self):
        self.told(FALLING, (
            ("a", ("x", "y"), ()),
            ("aa", ("x", "y"), ("x", "y")),
            ("b", ("x", "y"), ("x", "y")),
            ("m", ("x",), ("y",)),
            ("z", ("y",), ("x", "y")),
        ))

    def test_places_and_blocks_of_the_same_names(self):
        self.told(NAMESAKES, (
            ("a", ("c",), ("a", "b", "c")),
            ("b", ("a", "b"), ("b", "c")),
            ("c", ("b", "c"), ("b", "c")),
        ))

    def test_blocks_that_are_not_reached_are_told_too(self):
        self.told(UNREACHED, (
            ("a", (), ("x",)),
            ("b", ("x",), ()),
            ("c", ("u", "v", "w"), ("u", "v", "x")),
            ("d", ("u", "v"), ("u", "v")),
            ("e", ("u", "v"), ("u", "v")),
        ))

    def test_what_is_not_reached_does_not_count_for_what_is(self):
        self.told((("a", (), ("stop",)), ("b", (("put", "x"),), ("go", "a"))), (("a", (), ()), ("b", ("x",), ())))

    def test_ends_count_whatever_places_bear(self):
        program = (
            ("a", (("set", "x", 1),), ("if", "x", "b", "c")),
            ("b", (), ("stop",)),
            ("c", (("put", "y"),), ("stop",)),
        )
        self.assertEqual(fact(program, "live")[0], ("a", ("y",), ("y",)))

    def test_made_programs(self):
        for program in (*SHAPES, *MADE):
            self.told(program, oracles.live(program, places_of(program)))


if __name__ == "__main__":
    unittest.main()
