import copy
import itertools
import unittest

from passmill.errors import NoLine
from passmill.lines import line_text, read_line
from samples import NOWHERE_RIGHT

LETTERS = "abcdefghijklmnopqrstuvwxyz"

LINES = (
    ("", []),
    ("a", ["a"]),
    ("abcdef", ["abcdef"]),
    ("fold dead", ["fold", "dead"]),
    ("a a a", ["a", "a", "a"]),
    ("(a)1", [(1, ("a",))]),
    ("(a)+", [(None, ("a",))]),
    ("(fold spread)3 dead", [(3, ("fold", "spread")), "dead"]),
    ("dead (fold)+", ["dead", (None, ("fold",))]),
    ("(a)1 (b)2 (c)+", [(1, ("a",)), (2, ("b",)), (None, ("c",))]),
    ("((a)2)3", [(3, ((2, ("a",)),))]),
    ("(a (b)2 c)3", [(3, ("a", (2, ("b",)), "c"))]),
    ("((a)2 (b)+)9", [(9, ((2, ("a",)), (None, ("b",))))]),
    ("((((a)1 (b)2)3)4)5", [(5, ((4, ((3, ((1, ("a",)), (2, ("b",)))),)),))]),
    ("((((a)1)2)3)+", [(None, ((3, ((2, ((1, ("a",)),)),)),))]),
    ("((((a b)1 c)2)3 d)4 e", [(4, ((3, ((2, ((1, ("a", "b")), "c")),)), "d")), "e"]),
)

# Each text, and the place that NoLine tells.
NO_LINES = (
    # names
    ("abcdefg", 0), ("abcdefgh", 0), ("a abcdefg", 2), ("abcdefg a", 0), ("(abcdefg", 1), ("(abcdefg)2", 1),
    ("a (b abcdefg)2", 5), ("abcdefgA", 0), ("abcdefg  ", 0),
    # other signs
    ("A", 0), ("aB", 1), ("abcdefG", 6), ("a A", 2), ("1", 0), ("2 a", 0), ("a1", 1), ("a 1", 2), ("+", 0), ("a+", 1),
    ("a,b", 1), ("a\n", 1), ("a\tb", 1), ("\n", 0), ("\u00e4", 0), ("a\u00e4", 1), ("-", 0), ("[a]2", 0),
    ("a\u00a0b", 1),
    # blanks
    (" ", 0), ("  ", 0), (" a", 0), ("a ", 1), ("a  ", 1), ("a  b", 1), ("a b  c", 3), ("a b ", 3), ("( a)2", 1),
    ("(a )2", 2), ("(a  )2", 2), ("(a  b)2", 2), ("(a) 2", 3), ("(a)2 ", 4), ("(a)2  b", 4), (" (a)2", 0), ("( )2", 1),
    ("(a ", 2), ("(a b ", 4), ("( ", 1), ("(a)2 )", 4), ("((a)2 )3", 5), ("a )", 1),
    # nothing between two items
    ("a(b)2", 1), ("(a)2b", 4), ("(a)2(b)2", 4), ("(a(b)2)2", 2), ("((a)2b)2", 5), ("(a)++", 4), ("(a)22", 4),
    # figures
    ("(a)0", 3), ("(a)", 3), ("(a)a", 3), ("(a)-", 3), ("(a)10", 4), ("(a)*", 3), ("(a))", 3), ("(a)(", 3),
    ("(a)\u00b2", 3), ("(a)\u0663", 3), ("((a))2", 4), ("((a)2)", 6), ("(a)A", 3),
    # empty brackets
    ("()", 1), ("()2", 1), ("(()2)2", 2), ("a ()2", 3), ("(a ()2)2", 4),
    # brackets that are not closed, or were not opened
    ("(", 1), ("(a", 2), ("(a b", 4), ("((a)2", 5), ("(a (b)2", 7), ("a (", 3), ("((", 2), ("((((", 4),
    (")", 0), (")2", 0), ("a)", 1), ("a)2", 1), ("(a)2)", 4), ("(a)2)2", 4), ("a b)2", 3),
    # five deep
    ("(((((a)1)1)1)1)1", 4), ("(((((", 4), ("a (b (c (d (e (f)1)1)1)1)1", 14), ("((((a (", 6),
)

ITEMS = [
    "a", (1, ("b",)), (None, ("c", (9, ("d", (2, ("e", (3, ("f",)))))))), "abcdef",
]


def place_of_misfit(text):
    """The place that NoLine must tell, or None of a line, found sign by sign."""
    ahead, deep, begun = "begin", 0, 0
    for at, sign in enumerate(text):
        behind = text[at + 1:at + 2]
        if ahead in ("begin", "blank", "open"):
            if sign == "(" and deep < 4:
                ahead, deep = "open", deep + 1
            elif sign in LETTERS:
                ahead, begun = "name", at
            else:
                return at
            # The whole name is looked at from its first sign on.
            if ahead == "name" and len(text[at:]) - len(text[at:].lstrip(LETTERS)) > 6:
                return begun
        elif ahead == "close":
            if sign not in "123456789+":
                return at
            ahead = "figure"
        elif ahead == "name" and sign in LETTERS:
            continue
        elif sign == " " and behind not in (" ", ")", ""):
            ahead = "blank"
        elif sign == ")" and deep > 0:
            ahead, deep = "close", deep - 1
        else:
            return at
    return None if text == "" or (ahead in ("name", "figure") and deep == 0) else len(text)


class ReadLineTest(unittest.TestCase):
    def refused(self, text, at):
        with self.assertRaises(NoLine, msg=repr(text)) as caught:
            read_line(text)
        self.assertEqual(caught.exception.at, at, repr(text))
        self.assertIs(type(caught.exception.at), int)

    def test_lines(self):
        for text, items in LINES:
            self.assertEqual(read_line(text), items)
            self.assertIs(type(read_line(text)), list)

    def test_each_figure(self):
        for figure in range(1, 10):
            told = read_line(f"(a){figure}")
            self.assertEqual(told, [(figure, ("a",))])
            self.assertIs(type(told[0][0]), int)

    def test_each_letter_and_length(self):
        for letter in LETTERS:
            self.assertEqual(read_line(letter), [letter])
        for many in range(1, 7):
            self.assertEqual(read_line("x" * many), ["x" * many])

    def test_kinds_within(self):
        told = read_line("(a (b)+)2")
        self.assertIs(type(told[0]), tuple)
        self.assertIs(type(told[0][1]), tuple)
        self.assertIs(type(told[0][1][1]), tuple)
        self.assertIs(told[0][1][1][0], None)

    def test_what_are_no_lines(self):
        for text, at in NO_LINES:
            self.refused(text, at)

    def test_all_short_texts(self):
        for length in range(7):
            for signs in itertools.product("a ()2A", repeat=length):
                text = "".join(signs)
                at = place_of_misfit(text)
                if at is None:
                    self.assertEqual(line_text(read_line(text)), text)
                else:
                    self.refused(text, at)

    def test_lines_with_one_sign_otherwise(self):
        for text, items in LINES:
            for at in range(len(text) + 1):
                for other in ("", *"a ()2+0A", "aaaaaa", "  ", "(a)1", " b", "(b"):
                    for turned in (text[:at] + other + text[at:], text[:at] + other + text[at + 1:]):
                        place = place_of_misfit(turned)
                        if place is None:
                            self.assertEqual(line_text(read_line(turned)), turned)
                        else:
                            self.refused(turned, place)

    def test_cut_lines(self):
        for text, items in LINES:
            for many in range(len(text)):
                place = place_of_misfit(text[:many])
                if place is not None:
                    self.refused(text[:many], place)

    def test_long_texts(self):
        self.assertEqual(read_line(" ".join(["abcdef"] * 2000)), ["abcdef"] * 2000)
        self.refused("(" * 5000, 4)
        self.refused("a" * 5000, 0)
        self.refused("a " * 5000, 9999)

    def test_what_is_no_text(self):
        for thing in (None, True, False, 0, 1, 7, [], ["a"], (), ("a",), [["a"]], ((((((),),),),),), {}, b"a", 1.5):
            self.refused(thing, 0)

    def test_told_lists_are_new_ones(self):
        told = read_line("a (b)2")
        told.clear()
        self.assertEqual(read_line("a (b)2"), ["a", (2, ("b",))])
        told = read_line("")
        told.append("a")
        self.assertEqual(read_line(""), [])


class LineTextTest(unittest.TestCase):
    def refused(self, items):
        with self.assertRaises(NoLine, msg=repr(items)) as caught:
            line_text(items)
        self.assertEqual(caught.exception.at, 0)
        self.assertIs(type(caught.exception.at), int)

    def test_lines(self):
        for text, items in LINES:
            self.assertEqual(line_text(items), text)
            self.assertIs(type(line_text(items)), str)

    def test_they_lead_to_one_another(self):
        self.assertEqual(line_text(ITEMS), "a (b)1 (c (d (e (f)3)2)9)+ abcdef")
        self.assertEqual(read_line(line_text(ITEMS)), ITEMS)
        for figure in (*range(1, 10), None):
            items = [(figure, ("a", (figure, ("b",))))]
            self.assertEqual(read_line(line_text(items)), items)

    def test_what_are_no_items(self):
        for thing in (None, True, False, 0, 1, "", "a", (), ("a",), (1, ("a",)), {}, {"a": 1}, b"a"):
            self.refused(thing)

    def test_names(self):
        for name in ("", "abcdefg", "A", "a b", "a ", " ", "(a)2", "a1", "\u00e4", "a\n", None, 1, True, b"a", ["a"]):
            self.refused([name])
            self.refused(["a", name])
            self.refused([(2, (name,))])
            self.refused([(2, ("a", name))])

    def test_figures(self):
        for times in (0, 10, -1, True, False, "2", "+", "", [], (), (2,), [2], 10 ** 30, 2.0):
            self.refused([(times, ("a",))])
            self.refused(["a", (2, ((times, ("a",)),))])

    def test_items_of_brackets(self):
        for inner in (
            (), [], ["a"], "a", "", None, 1, True, ("a", ()), ((),), (("a",),), ("a", ["b"]), ((2, ("a",), 1),),
        ):
            self.refused([(2, inner)])
            self.refused([(None, inner)])
            self.refused(["a", (2, ("b", (None, inner)))])

    def test_lengths_and_kinds_of_brackets(self):
        for item in (
            (), (2,), (None,), (2, ("a",), 1), (2, "a", "b"), [2, ("a",)], (("a",), 2), ("a",), ("a", "b"), [], ["a"],
        ):
            self.refused([item])
            self.refused([(2, (item,))])

    def test_four_deep_and_five_deep(self):
        item = "a"
        for depth in range(1, 8):
            item = (2, (item,))
            if depth <= 4:
                self.assertEqual(line_text([item]), "(" * depth + "a" + ")2" * depth)
                self.assertEqual(read_line(line_text([item])), [item])
            else:
                self.refused([item])
                self.refused(["a", item])

    def test_any_thing_is_taken(self):
        for thing in NOWHERE_RIGHT:
            if thing not in ([], ["a"]):
                self.refused(thing)
            if thing != "abcd":
                self.refused([thing])
                self.refused([(2, (thing,))])
            if thing is not None:
                self.refused([(2, ("a", (thing, ("b",))))])

    def test_what_is_handed_in_is_not_changed(self):
        for thing in (list(ITEMS), ["a", ["b"], (2, ["c"])]):
            before = copy.deepcopy(thing)
            try:
                line_text(thing)
            except NoLine:
                pass
            self.assertEqual(thing, before)

    def test_the_same_again(self):
        items = ["a", (2, ("b",))]
        self.assertEqual(line_text(items), line_text(items))
        items.append("c")
        self.assertEqual(line_text(items), "a (b)2 c")


if __name__ == "__main__":
    unittest.main()
