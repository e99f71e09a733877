import copy
import unittest

from passmill.errors import NoProgram
from passmill.programs import is_program, places_of, size_of
from samples import ALL_WORDS, NOWHERE_RIGHT, ROUND, STOP, one_block, wrong_programs


def blocks(many):
    """A program of so many blocks, which may be too many, or none."""
    return tuple((letter, (), ("stop",)) for letter in "abcdefghijklm"[:many])


class IsProgramTest(unittest.TestCase):
    def right(self, thing):
        self.assertIs(is_program(thing), True, thing)

    def wrong(self, thing):
        self.assertIs(is_program(thing), False, thing)

    def test_ordinary_programs(self):
        self.right(ALL_WORDS)
        self.right(STOP)
        self.right(ROUND)

    def test_names_of_blocks(self):
        for name in ("a", "z", "ab", "abc", "zzz", "go", "set"):
            self.right(((name, (), ("go", name)),))
        for name in ("", "abcd", "A", "aB", "a1", "a_", " a", "a ", "a\n", "\u00e4", "\u0430", "1", 1, None, ("a",)):
            self.wrong(((name, (), ("stop",)),))
            self.wrong(((name, (), ("go", name)),))

    def test_names_of_places(self):
        forms = (
            lambda x: one_block([("set", x, 0)]),
            lambda x: one_block([("copy", x, "b")]),
            lambda x: one_block([("copy", "b", x)]),
            lambda x: one_block([("add", x, "b", "b")]),
            lambda x: one_block([("sub", "b", x, "b")]),
            lambda x: one_block([("mul", "b", "b", x)]),
            lambda x: one_block([("less", x, "b", "b")]),
            lambda x: one_block([("same", "b", x, "b")]),
            lambda x: one_block([("get", x)]),
            lambda x: one_block([("put", x)]),
            lambda x: one_block([], ("if", x, "a", "a")),
        )
        for form in forms:
            for name in ("a", "xy", "xyz", "if"):
                self.right(form(name))
            for name in ("", "wxyz", "X", "x1", "x y", "\u00e9", 0, True, None, ["x"], ("x",)):
                self.wrong(form(name))

    def test_how_many_blocks(self):
        self.right(blocks(1))
        self.right(blocks(12))
        self.wrong(blocks(0))
        self.wrong(blocks(13))

    def test_how_many_steps(self):
        self.right(one_block([]))
        self.right(one_block([("get", "x")] * 16))
        self.wrong(one_block([("get", "x")] * 17))

    def test_values(self):
        for value in (0, 1, 9972):
            self.right(one_block([("set", "x", value)]))
        for value in (-1, 9973, True, False, None, "1", "x", [1], (1,), 1.0):
            self.wrong(one_block([("set", "x", value)]))

    def test_two_blocks_of_one_name(self):
        self.wrong((("a", (), ("stop",)), ("a", (), ("stop",))))
        self.wrong((("a", (), ("go", "b")), ("b", (), ("stop",)), ("a", (("get", "x"),), ("stop",))))

    def test_a_block_and_a_place_may_share_a_name(self):
        self.right(one_block([("get", "a")], ("if", "a", "a", "a")))

    def test_ends_lead_to_blocks_that_are_there(self):
        self.right((("a", (), ("if", "x", "b", "a")), ("b", (), ("go", "a"))))
        self.wrong(one_block([], ("go", "b")))
        self.wrong(one_block([], ("if", "x", "a", "b")))
        self.wrong(one_block([], ("if", "x", "b", "a")))
        self.wrong((("a", (), ("stop",)), ("b", (), ("go", "c"))))
        self.wrong(one_block([("get", "x")], ("go", "x")))

    def test_words_and_lengths_of_steps(self):
        for step in (
            (), ("set",), ("set", "x"), ("set", "x", 1, 1), ("set", 1, "x"), ("copy", "x"), ("copy", "x", 1),
            ("copy", "x", "y", "z"), ("add", "x", "y"), ("add", "x", "y", "z", "z"), ("add", "x", "y", 1),
            ("get",), ("get", "x", "y"), ("put",), ("put", "x", "y"), ("put", 1), ("div", "x", "y", "z"),
            ("SET", "x", 1), ("", "x"), (None, "x"), (1, "x"), (True, "x"), (["get"], "x"), (("get",), "x"),
            ("stop",), ("go", "a"), ("if", "x", "a", "a"), "get", "get x", ["get", "x"], None, 0,
        ):
            self.wrong(one_block([step]))
            self.wrong(one_block([("get", "x"), step]))

    def test_words_and_lengths_of_ends(self):
        for end in (
            (), ("stop", "a"), ("go",), ("go", "a", "a"), ("if", "x", "a"), ("if", "a"), ("if", "x", "a", "a", "a"),
            ("get", "x"), ("set", "x", 1), ("halt",), (None,), (["stop"],), ((),), "stop", ["stop"], None, 0, True,
            ("go", ["a"]), ("go", ("a",)), ("go", None), ("if", "x", ["a"], "a"), ("if", ["x"], "a", "a"),
        ):
            self.wrong(one_block([], end))

    def test_lengths_and_kinds_of_blocks(self):
        for block in (
            (), ("a",), ("a", ()), ("a", (), ("stop",), ()), ((), "a", ("stop",)), ["a", (), ("stop",)],
            ("a", [], ("stop",)), ("a", None, ("stop",)), ("a", "", ("stop",)), ("a", ("get", "x"), ("stop",)),
            "abc", None, 3, True,
        ):
            self.wrong((block,))
            self.wrong((("b", (), ("stop",)), block))

    def test_any_thing_is_taken(self):
        for thing in NOWHERE_RIGHT:
            self.wrong(thing)
        for thing in (0, 1, (), "a", "stop", {}, 1.5, b"a"):
            self.wrong(thing)

    def test_wrong_things_deep_within(self):
        for thing in wrong_programs():
            self.wrong(thing)

    def test_the_same_again(self):
        for thing in (ALL_WORDS, STOP, [], ("a",)):
            self.assertEqual(is_program(thing), is_program(thing))

    def test_what_is_handed_in_is_not_changed(self):
        thing = [["a", [], ["stop"]], ("b", [], ("stop",))]
        before = copy.deepcopy(thing)
        self.wrong(thing)
        self.wrong(tuple(thing))
        self.assertEqual(thing, before)


class PlacesTest(unittest.TestCase):
    def test_all_places_rising(self):
        self.assertEqual(places_of(ALL_WORDS), ["d", "e", "l", "m", "one", "s", "x", "y"])

    def test_each_word_and_end_names_places(self):
        for step, places in (
            (("set", "b", 1), ["b"]),
            (("copy", "c", "b"), ["b", "c"]),
            (("add", "d", "c", "b"), ["b", "c", "d"]),
            (("sub", "d", "c", "b"), ["b", "c", "d"]),
            (("mul", "d", "c", "b"), ["b", "c", "d"]),
            (("less", "d", "c", "b"), ["b", "c", "d"]),
            (("same", "d", "c", "b"), ["b", "c", "d"]),
            (("get", "b"), ["b"]),
            (("put", "b"), ["b"]),
        ):
            self.assertEqual(places_of(one_block([step])), places)
        self.assertEqual(places_of(one_block([], ("if", "b", "a", "a"))), ["b"])

    def test_blocks_are_no_places(self):
        self.assertEqual(places_of(STOP), [])
        self.assertEqual(places_of(ROUND), [])

    def test_rising_by_the_order_of_python(self):
        program = one_block([("get", name) for name in ("b", "ab", "aa", "a", "b", "aaa", "ba")])
        self.assertEqual(places_of(program), ["a", "aa", "aaa", "ab", "b", "ba"])

    def test_blocks_that_are_not_reached_count(self):
        self.assertEqual(places_of((*STOP, ("b", (("put", "x"),), ("if", "y", "a", "b")))), ["x", "y"])

    def test_told_lists_are_new_ones(self):
        told = places_of(ALL_WORDS)
        told.clear()
        self.assertEqual(places_of(ALL_WORDS), ["d", "e", "l", "m", "one", "s", "x", "y"])


class SizeTest(unittest.TestCase):
    def test_steps_and_ends_count(self):
        self.assertEqual(size_of(STOP), 1)
        self.assertEqual(size_of(ALL_WORDS), 14)
        self.assertEqual(size_of(one_block([("get", "x")] * 16)), 17)
        self.assertEqual(size_of(blocks(12)), 12)

    def test_blocks_that_are_not_reached_count(self):
        self.assertEqual(size_of((*STOP, ("b", (("put", "x"),), ("stop",)))), 3)

    def test_the_same_again(self):
        self.assertEqual(size_of(ALL_WORDS), size_of(ALL_WORDS))


class RefusalsTest(unittest.TestCase):
    def test_what_is_no_program(self):
        for thing in (*wrong_programs(), blocks(0), blocks(13), one_block([], ("go", "b"))):
            for ask in (places_of, size_of):
                with self.assertRaises(NoProgram, msg=thing):
                    ask(thing)


if __name__ == "__main__":
    unittest.main()
