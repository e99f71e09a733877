import inspect
import unittest

from passmill.errors import NoInputs, NoNumber, NoProgram
from passmill.running import as_good, run
from samples import ALL_WORDS, NOWHERE_RIGHT, ROUND, STOP, one_block, wrong_programs

PUT_ALL_ROUND = (
    ("a", (("get", "x"), ("put", "x")), ("if", "x", "a", "b")),
    ("b", (), ("stop",)),
)
WRONG_INPUTS = (
    None, True, 0, 1, "", "1", (), (1,), {}, [-1], [9973], [True], [False], [1, True], [None], ["1"], [[1]], [(1,)],
    [[]], [1, [2]], [((((1,),),),)], [1.0], [0] * 31,
)
WRONG_TURNS = (
    0, -1, 10000, 10 ** 30, True, False, None, "", "1", "500", [], [1], (), (1,), [[1]], 1.0,
)


def puts(steps, inputs=()):
    """What steps put, in a program of one block."""
    return run(one_block(steps), list(inputs))[0]


def put_sum(word, left, right):
    """What a sum of two inputs comes to."""
    return puts([("get", "y"), ("get", "z"), (word, "x", "y", "z"), ("put", "x")], [left, right])


class StepsTest(unittest.TestCase):
    def test_set(self):
        for value in (0, 1, 9972):
            self.assertEqual(puts([("set", "x", value), ("put", "x")]), (value,))
        self.assertEqual(puts([("set", "x", 5), ("set", "x", 0), ("put", "x")]), (0,))

    def test_copy(self):
        self.assertEqual(puts([("set", "y", 7), ("copy", "x", "y"), ("put", "x"), ("put", "y")]), (7, 7))
        self.assertEqual(puts([("set", "x", 7), ("copy", "x", "y"), ("put", "x")]), (0,))
        later = [("set", "y", 7), ("copy", "x", "y"), ("set", "y", 8), ("put", "x")]
        self.assertEqual(puts(later), (7,))

    def test_sums_at_the_modulus(self):
        for word, left, right, value in (
            ("add", 2, 3, 5), ("add", 9971, 1, 9972), ("add", 9972, 1, 0), ("add", 9972, 9972, 9971),
            ("sub", 5, 3, 2), ("sub", 3, 3, 0), ("sub", 3, 5, 9971), ("sub", 0, 1, 9972), ("sub", 0, 9972, 1),
            ("mul", 6, 7, 42), ("mul", 9972, 0, 0), ("mul", 2, 4986, 9972), ("mul", 2, 4987, 1),
            ("mul", 9972, 2, 9971), ("mul", 9972, 9972, 1), ("mul", 100, 100, 27),
        ):
            self.assertEqual(put_sum(word, left, right), (value,), (word, left, right))

    def test_comparisons(self):
        for word, left, right, value in (
            ("less", 2, 3, 1), ("less", 3, 3, 0), ("less", 4, 3, 0), ("less", 0, 9972, 1), ("less", 9972, 0, 0),
            ("same", 2, 3, 0), ("same", 3, 3, 1), ("same", 4, 3, 0), ("same", 0, 0, 1), ("same", 9972, 9972, 1),
        ):
            told = put_sum(word, left, right)
            self.assertEqual(told, (value,), (word, left, right))
            self.assertIs(type(told[0]), int)

    def test_sums_into_their_own_places(self):
        for step, value in (
            (("add", "x", "x", "x"), 6), (("sub", "x", "x", "y"), 9968), (("sub", "x", "y", "x"), 5),
            (("mul", "x", "y", "x"), 24), (("less", "x", "x", "y"), 1), (("same", "x", "x", "x"), 1),
        ):
            self.assertEqual(puts([("get", "x"), ("get", "y"), step, ("put", "x")], [3, 8]), (value,), step)

    def test_get(self):
        steps = [("get", "x"), ("put", "x"), ("get", "x"), ("put", "x")]
        self.assertEqual(puts(steps, [4, 9972]), (4, 9972))
        self.assertEqual(puts(steps, [4, 5, 6]), (4, 5))

    def test_get_where_none_is_left(self):
        steps = [("set", "x", 3), ("get", "x"), ("put", "x"), ("set", "x", 3), ("get", "x"), ("put", "x")]
        self.assertEqual(puts(steps, [4]), (4, 0))
        self.assertEqual(puts(steps, []), (0, 0))

    def test_put(self):
        self.assertEqual(puts([("put", "x")]), (0,))
        self.assertEqual(puts([("set", "y", 2), ("put", "y"), ("put", "x"), ("put", "y")]), (2, 0, 2))

    def test_places_bear_0_at_first(self):
        steps = [("add", "a", "b", "c"), ("put", "a"), ("same", "a", "b", "c"), ("put", "a"), ("put", "zzz")]
        self.assertEqual(puts(steps), (0, 1, 0))

    def test_blocks_are_no_places(self):
        self.assertEqual(puts([("set", "a", 4), ("put", "a")]), (4,))


class EndsTest(unittest.TestCase):
    def test_stop(self):
        self.assertEqual(run(STOP, []), ((), "stop", 1))

    def test_the_first_block_begins_whatever_its_name(self):
        program = (("z", (("set", "x", 1),), ("go", "m")), ("a", (), ("stop",)), ("m", (("put", "x"),), ("go", "a")))
        self.assertEqual(run(program, []), ((1,), "stop", 5))

    def test_go_past_blocks(self):
        program = (
            ("a", (), ("go", "c")),
            ("b", (("put", "x"),), ("stop",)),
            ("c", (("put", "y"), ("put", "y")), ("stop",)),
        )
        self.assertEqual(run(program, []), ((0, 0), "stop", 4))

    def test_if(self):
        program = (
            ("a", (("get", "x"),), ("if", "x", "b", "c")),
            ("b", (("set", "y", 1), ("put", "y")), ("stop",)),
            ("c", (("set", "y", 2), ("put", "y")), ("stop",)),
        )
        for value, put in ((0, 2), (1, 1), (2, 1), (9972, 1)):
            self.assertEqual(run(program, [value]), ((put,), "stop", 5))

    def test_if_asks_a_place_that_was_never_written(self):
        program = (("a", (), ("if", "a", "a", "b")), ("b", (), ("stop",)))
        self.assertEqual(run(program, []), ((), "stop", 2))

    def test_places_stay_from_block_to_block(self):
        program = (
            ("a", (("get", "n"), ("set", "one", 1)), ("go", "b")),
            ("b", (("put", "n"), ("sub", "n", "n", "one")), ("if", "n", "b", "c")),
            ("c", (("put", "n"),), ("stop",)),
        )
        self.assertEqual(run(program, [3]), ((3, 2, 1, 0), "stop", 14))

    def test_all_words(self):
        self.assertEqual(run(ALL_WORDS, [5]), ((40, 1, 1), "stop", 14))
        self.assertEqual(run(ALL_WORDS, [0]), ((), "stop", 5))


class TurnsTest(unittest.TestCase):
    def test_as_many_as_the_run_does_and_one_fewer(self):
        self.assertEqual(run(STOP, [], turns=1), ((), "stop", 1))
        self.assertEqual(run(PUT_ALL_ROUND, [7, 0], turns=7), ((7, 0), "stop", 7))
        self.assertEqual(run(PUT_ALL_ROUND, [7, 0], turns=6), ((7, 0), "limit", 6))
        self.assertEqual(run(PUT_ALL_ROUND, [7, 0], turns=8), ((7, 0), "stop", 7))

    def test_each_step_and_end_is_one(self):
        for turns, told in ((1, ()), (2, (7,)), (3, (7,)), (4, (7,)), (5, (7, 0)), (6, (7, 0))):
            self.assertEqual(run(PUT_ALL_ROUND, [7, 0], turns=turns), (told, "limit", turns))

    def test_500_unless_told(self):
        self.assertEqual(run(ROUND, []), ((), "limit", 500))
        many = one_block([("put", "x")], ("go", "a"))
        self.assertEqual(run(many, []), ((0,) * 250, "limit", 500))

    def test_least_and_most(self):
        self.assertEqual(run(ROUND, [], turns=1), ((), "limit", 1))
        self.assertEqual(run(ROUND, [], turns=9999), ((), "limit", 9999))

    def test_told_by_name_alone(self):
        for ask in (run, as_good):
            turns = inspect.signature(ask).parameters["turns"]
            self.assertEqual((turns.kind, turns.default), (inspect.Parameter.KEYWORD_ONLY, 500))


class InputsTest(unittest.TestCase):
    def test_30_inputs(self):
        inputs = list(range(1, 31))
        self.assertEqual(run(PUT_ALL_ROUND, inputs), ((*range(1, 31), 0), "stop", 94))

    def test_least_and_most(self):
        self.assertEqual(run(PUT_ALL_ROUND, [9972, 0])[0], (9972, 0))

    def test_they_are_as_before(self):
        inputs = [3, 2, 1]
        run(PUT_ALL_ROUND, inputs)
        as_good(PUT_ALL_ROUND, PUT_ALL_ROUND, inputs)
        self.assertEqual(inputs, [3, 2, 1])

    def test_they_are_as_before_behind_a_refusal(self):
        inputs = [3, True, [1]]
        with self.assertRaises(NoInputs):
            run(STOP, inputs)
        self.assertEqual(repr(inputs), "[3, True, [1]]")


class ToldTest(unittest.TestCase):
    def test_kinds(self):
        told = run(ALL_WORDS, [5])
        self.assertIs(type(told), tuple)
        self.assertEqual([type(part) for part in told], [tuple, str, int])

    def test_the_same_again(self):
        for inputs in ([], [0], [5], [5, 6]):
            self.assertEqual(run(ALL_WORDS, inputs), run(ALL_WORDS, inputs))
            self.assertEqual(as_good(ALL_WORDS, STOP, inputs), as_good(ALL_WORDS, STOP, inputs))


class AsGoodTest(unittest.TestCase):
    def good(self, *asked, **more):
        self.assertIs(as_good(*asked, **more), True)

    def bad(self, *asked, **more):
        self.assertIs(as_good(*asked, **more), False)

    def test_itself(self):
        for program in (ALL_WORDS, STOP, ROUND, PUT_ALL_ROUND):
            self.good(program, program, [2, 1])

    def test_no_more_steps(self):
        short = one_block([("put", "x")])
        long = one_block([("set", "x", 0), ("put", "x")])
        alike = one_block([("put", "y")])
        self.good(short, long, [])
        self.bad(long, short, [])
        self.good(short, alike, [])

    def test_ends_count_as_steps(self):
        short = one_block([("put", "x")])
        long = (("a", (("put", "x"),), ("go", "b")), ("b", (), ("stop",)))
        self.good(short, long, [])
        self.bad(long, short, [])

    def test_the_same_is_put(self):
        once = one_block([("put", "x")])
        twice = one_block([("put", "x"), ("put", "x")])
        one = one_block([("set", "x", 1), ("put", "x")])
        idle = one_block([("get", "x"), ("get", "x"), ("put", "y")])
        self.bad(once, twice, [])
        self.bad(twice, once, [])
        self.bad(STOP, once, [])
        self.bad(one, idle, [])

    def test_with_these_inputs(self):
        through = one_block([("get", "x"), ("put", "x")])
        three = one_block([("set", "x", 3), ("put", "x")])
        self.good(three, through, [3])
        self.bad(three, through, [4])

    def test_the_other_one_stopped_and_it_does_not(self):
        self.bad(ROUND, STOP, [])
        puts_first = (("a", (("put", "x"),), ("go", "b")), ("b", (), ("go", "b")))
        self.bad(puts_first, one_block([("put", "x")]), [])

    def test_the_other_one_did_not_stop(self):
        puts_zeros = one_block([("put", "x")], ("go", "a"))
        puts_slowly = one_block([("put", "x"), ("get", "y")], ("go", "a"))
        puts_ones = one_block([("set", "x", 1), ("put", "x")], ("go", "a"))
        self.good(STOP, ROUND, [])
        self.good(puts_zeros, ROUND, [])
        self.good(ALL_WORDS, ROUND, [5])
        self.good(puts_zeros, puts_slowly, [])
        self.bad(puts_slowly, puts_zeros, [])
        self.bad(puts_ones, puts_slowly, [])
        self.bad(STOP, puts_zeros, [])

    def test_it_may_stop_where_the_other_one_did_not(self):
        once = (("a", (("put", "x"),), ("go", "b")), ("b", (), ("go", "b")))
        self.good(one_block([("put", "x")]), once, [])
        self.good(one_block([("put", "x"), ("put", "y")]), once, [])
        self.bad(STOP, once, [])

    def test_turns(self):
        slow = one_block([("get", "y"), ("put", "x")])
        quick = one_block([("put", "x")])
        self.bad(slow, quick, [], turns=500)
        self.bad(slow, quick, [], turns=2)
        self.bad(slow, quick, [], turns=1)
        self.good(STOP, slow, [], turns=1)
        self.bad(STOP, slow, [], turns=2)
        self.good(quick, slow, [], turns=2)
        self.good(PUT_ALL_ROUND, PUT_ALL_ROUND, [1] * 30, turns=9999)


class RefusalsTest(unittest.TestCase):
    def test_run_of_no_program(self):
        for thing in wrong_programs():
            with self.assertRaises(NoProgram, msg=thing):
                run(thing, [])

    def test_as_good_of_no_program(self):
        for thing in (*NOWHERE_RIGHT, (), one_block([], ("go", "b"))):
            with self.assertRaises(NoProgram, msg=thing):
                as_good(thing, STOP, [])
            with self.assertRaises(NoProgram, msg=thing):
                as_good(STOP, thing, [])

    def test_inputs(self):
        for thing in WRONG_INPUTS:
            with self.assertRaises(NoInputs, msg=thing):
                run(STOP, thing)
            with self.assertRaises(NoInputs, msg=thing):
                as_good(STOP, STOP, thing)

    def test_turns(self):
        for thing in WRONG_TURNS:
            with self.assertRaises(NoNumber, msg=thing):
                run(STOP, [], turns=thing)
            with self.assertRaises(NoNumber, msg=thing):
                as_good(STOP, STOP, [], turns=thing)

    def test_which_comes_first_of_run(self):
        for refusal, program, inputs, turns in (
            (NoProgram, (), (), 0), (NoProgram, (), [], 0), (NoProgram, (), (), 1), (NoProgram, (), [], 1),
            (NoInputs, STOP, (), 0), (NoInputs, STOP, (), 1), (NoNumber, STOP, [], 0),
        ):
            with self.assertRaises(refusal):
                run(program, inputs, turns=turns)

    def test_which_comes_first_of_as_good(self):
        for refusal, program, other, inputs, turns in (
            (NoProgram, (), (), (), 0), (NoProgram, (), STOP, (), 0), (NoProgram, (), STOP, [], 0),
            (NoProgram, (), STOP, (), 1), (NoInputs, STOP, (), (), 0), (NoInputs, STOP, (), (), 1),
            (NoInputs, STOP, STOP, (), 0), (NoNumber, STOP, (), [], 0), (NoNumber, STOP, STOP, [], 0),
            (NoProgram, STOP, (), [], 1),
        ):
            with self.assertRaises(refusal):
                as_good(program, other, inputs, turns=turns)


if __name__ == "__main__":
    unittest.main()
