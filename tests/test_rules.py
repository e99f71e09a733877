"""What plugged passes make of programs."""

import unittest

import slow_passes
from asking import PassTest
from made import MADE, PLUGS, POOLED, SHAPES, UNREACHED
from passmill.halves import after
from passmill.programs import is_program, size_of

GET, PUT = ("get", "A"), ("put", "A")


class RulesTest(PassTest):
    def rules(self, rules, steps, expected):
        plug = ("p", tuple((tuple(old), tuple(new)) for old, new in rules), ())
        self.makes_steps("p", steps, expected, plugs=[plug])

    def test_rules_of_one_two_and_three_forms(self):
        steps = [("get", "x"), ("put", "x"), ("get", "y"), ("put", "y"), ("get", "z")]
        self.rules([([GET], [PUT])], steps, [("put", "x"), ("put", "x"), ("put", "y"), ("put", "y"), ("put", "z")])
        self.rules([([GET, PUT], [PUT])], steps, [("put", "x"), ("put", "y"), ("get", "z")])
        self.rules(
            [([GET, PUT, ("get", "B")], [("copy", "A", "B")])],
            steps,
            [("copy", "x", "y"), ("put", "y"), ("get", "z")],
        )

    def test_new_as_long_as_old(self):
        self.rules(
            [([("put", "A"), ("put", "B"), ("put", "C")], [("put", "C"), ("put", "B"), ("put", "A")])],
            [("put", "x"), ("put", "y"), ("put", "z"), ("put", "w")],
            [("put", "z"), ("put", "y"), ("put", "x"), ("put", "w")],
        )

    def test_each_word(self):
        for form, step in (
            (("set", "A", "N"), ("set", "x", 7)), (("copy", "A", "B"), ("copy", "x", "y")),
            (("get", "A"), ("get", "x")), (("put", "A"), ("put", "x")),
            *(((word, "A", "B", "C"), (word, "x", "y", "z")) for word in ("add", "sub", "mul", "less", "same")),
        ):
            self.rules([([form], [("put", "A")])], [step], [("put", "x")])
            self.rules([([form], [form])], [step, step], [step, step])

    def test_other_words_do_not_fit(self):
        words = ("add", "sub", "mul", "less", "same")
        for word in words:
            for other in words:
                expected = [("get", "x")] if word == other else [(other, "x", "y", "z")]
                self.rules([([(word, "A", "B", "C")], [GET])], [(other, "x", "y", "z")], expected)

    def test_the_first_rule_that_fits(self):
        steps = [("get", "x"), ("put", "x")]
        self.rules([([GET], []), ([GET, PUT], [PUT, PUT])], steps, [("put", "x")])
        self.rules([([GET, PUT], [PUT, PUT]), ([GET], [])], steps, [("put", "x"), ("put", "x")])
        self.rules([([("mul", "A", "A", "A")], []), ([GET], [PUT])], steps, [("put", "x"), ("put", "x")])
        self.rules([([GET, GET], [PUT]), ([PUT], [GET])], steps, [("get", "x"), ("get", "x")])

    def test_the_first_place_goes_ahead_of_the_first_rule(self):
        self.rules(
            [([PUT, ("get", "B")], []), ([GET, ("put", "B")], [])],
            [("get", "x"), ("put", "y"), ("get", "z")],
            [("get", "z")],
        )

    def test_going_on_behind_what_came(self):
        self.rules([([GET], [PUT]), ([PUT], [GET])], [("get", "x"), ("put", "y")], [("put", "x"), ("get", "y")])
        self.rules([([PUT, ("put", "B")], [PUT])], [("put", "x")] * 4, [("put", "x")] * 2)
        self.rules([([PUT, ("put", "B")], [("put", "B")])], [("put", "x")] * 5, [("put", "x")] * 3)
        self.rules(
            [([GET, ("get", "B")], [("get", "B"), GET])],
            [("get", "x"), ("get", "y"), ("get", "z")],
            [("get", "y"), ("get", "x"), ("get", "z")],
        )

    def test_what_came_is_not_looked_at_with_what_follows(self):
        self.rules([([GET], [PUT]), ([PUT, PUT], [])], [("get", "x"), ("put", "x")], [("put", "x"), ("put", "x")])

    def test_empty_new(self):
        self.rules([([GET], [])], [("get", "x"), ("put", "x"), ("get", "y")], [("put", "x")])
        self.rules([([GET], [])], [("get", "x")] * 16, [])
        # What was apart is not looked at as one behind the other.
        self.rules([([GET], []), ([PUT, PUT], [])], [("put", "x"), ("get", "x"), ("put", "x")],
                   [("put", "x"), ("put", "x")])

    def test_unlike_signs_for_the_same_place(self):
        self.rules([([("copy", "A", "B")], [("put", "B")])], [("copy", "x", "x")], [("put", "x")])
        self.rules([([("add", "A", "B", "C")], [("sub", "C", "B", "A")])], [("add", "x", "x", "x")],
                   [("sub", "x", "x", "x")])

    def test_one_sign_for_one_place_throughout(self):
        self.rules([([("copy", "A", "A")], [])], [("copy", "x", "x"), ("copy", "x", "y")], [("copy", "x", "y")])
        self.rules(
            [([GET, PUT], [])],
            [("get", "x"), ("put", "y"), ("get", "y"), ("put", "y")],
            [("get", "x"), ("put", "y")],
        )
        self.rules([([("add", "A", "B", "B")], [PUT])], [("add", "x", "y", "z"), ("add", "x", "y", "y")],
                   [("add", "x", "y", "z"), ("put", "x")])

    def test_signs_are_bound_anew_at_each_place_and_rule(self):
        self.rules([([GET, PUT], [PUT])], [("get", "x"), ("put", "x"), ("get", "y"), ("put", "y")],
                   [("put", "x"), ("put", "y")])
        self.rules([([GET, GET], []), ([("get", "B"), ("get", "A")], [GET])], [("get", "x"), ("get", "y")],
                   [("get", "y")])

    def test_n_stands_for_one_value_throughout(self):
        rule = ([("set", "A", "N"), ("set", "B", "N")], [("set", "A", "N"), ("copy", "B", "A")])
        self.rules([rule], [("set", "x", 5), ("set", "y", 5)], [("set", "x", 5), ("copy", "y", "x")])
        self.rules([rule], [("set", "x", 0), ("set", "y", 0)], [("set", "x", 0), ("copy", "y", "x")])
        self.rules([rule], [("set", "x", 5), ("set", "y", 6)], [("set", "x", 5), ("set", "y", 6)])
        self.rules([([("set", "A", "N"), ("put", "B")], [("set", "B", "N"), ("put", "A")])],
                   [("set", "x", 9972), ("put", "y")], [("set", "y", 9972), ("put", "x")])

    def test_a_value_in_set(self):
        rule = ([("set", "A", 1)], [("set", "A", 2)])
        self.rules([rule], [("set", "x", 1), ("set", "x", 0), ("set", "y", 1), ("set", "x", 11)],
                   [("set", "x", 2), ("set", "x", 0), ("set", "y", 2), ("set", "x", 11)])
        self.rules([([("set", "A", 0)], [])], [("set", "x", 0), ("set", "x", 1)], [("set", "x", 1)])
        self.rules([([("get", "A")], [("set", "A", 9972)])], [("get", "x")], [("set", "x", 9972)])

    def test_across_the_end_of_the_steps(self):
        steps = [("put", "x"), ("get", "x")]
        self.rules([([GET, PUT], [])], steps, steps)
        self.rules([([GET, GET, GET], [])], [("get", "x")] * 5, [("get", "x")] * 2)
        plug = ("p", (((GET, PUT), ()),), ())
        blocks = (("a", (("get", "x"),), ("go", "b")), ("b", (("put", "x"),), ("stop",)))
        self.makes("p", blocks, blocks, [plug])

    def test_no_steps(self):
        self.rules([([GET], [])], [], [])

    def test_all_blocks_and_no_ends(self):
        plug = ("p", (((PUT,), ()), ((("set", "A", "N"),), (GET,))), ())
        self.makes("p", UNREACHED, (
            ("a", (("get", "x"),), ("go", "b")),
            ("b", (), ("stop",)),
            ("c", (("get", "x"),), ("if", "w", "b", "d")),
            ("d", (), ("go", "e")),
            ("e", (("copy", "x", "u"),), ("if", "x", "d", "a")),
        ), [plug])

    def test_a_wide_plug(self):
        many = (
            ((("set", "A", "N"), ("copy", "B", "A")), (("set", "A", "N"), ("set", "B", "N"))),
            ((("add", "A", "B", "C"), ("sub", "D", "A", "C"), ("put", "D")), (("put", "B"),)),
            ((("same", "A", "B", "B"),), (("set", "A", 1),)),
        )
        self.rules(
            many,
            [("set", "x", 4), ("copy", "y", "x"), ("same", "t", "y", "y"), ("add", "s", "x", "y"),
             ("sub", "d", "s", "y"), ("put", "d"), ("same", "t", "x", "y")],
            [("set", "x", 4), ("set", "y", 4), ("set", "t", 1), ("put", "x"), ("same", "t", "x", "y")],
        )


class ManyPlugsTest(unittest.TestCase):
    def test_what_another_way_finds(self):
        turned = 0
        for plug in PLUGS:
            for program in (*SHAPES, *MADE[:60], *POOLED[:100]):
                made = after(program, [plug[0]], plugs=[plug])
                self.assertEqual(made, slow_passes.plugged(program, plug), (plug, program))
                self.assertTrue(is_program(made))
                self.assertLessEqual(size_of(made), size_of(program))
                turned += made != program
        self.assertGreater(turned, 500)


if __name__ == "__main__":
    unittest.main()
