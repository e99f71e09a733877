import copy
import itertools
import unittest

from made import FACT_NAMES
from passmill.plugs import is_plug
from samples import NOWHERE_RIGHT, with_each_node_replaced, with_each_tuple_a_list

COPY = ("copy", "A", "B")
RULE = ((COPY,), ())

# Each word of a form, all signs, values and N, rules of 1 to 3 forms.
PLUG = (
    "trick",
    (
        ((("set", "A", "N"), ("copy", "B", "A")), (("set", "A", "N"), ("set", "B", "N"))),
        ((("add", "A", "B", "C"), ("sub", "D", "A", "C"), ("put", "D")), (("put", "B"),)),
        ((("mul", "A", "B", "B"), ("less", "C", "A", "A")), (("mul", "A", "B", "B"), ("set", "C", 0))),
        ((("same", "A", "B", "B"),), (("set", "A", 1),)),
        ((("get", "A"), ("get", "A")), (("get", "A"),)),
        ((("set", "A", 9972),), ()),
    ),
    ("edges", "doms"),
)

FORMS = (
    ("set", "A", 0), ("set", "A", 9972), ("set", "A", "N"), ("copy", "A", "B"), ("copy", "A", "A"),
    ("add", "A", "B", "C"), ("sub", "A", "A", "D"), ("mul", "D", "D", "D"), ("less", "B", "C", "A"),
    ("same", "A", "B", "A"), ("get", "A"), ("put", "A"),
)

NO_FORMS = (
    (), ("set",), ("set", "A"), ("set", "A", 1, 1), ("set", 1, "A"), ("set", "A", "A"), ("set", "A", "n"),
    ("set", "A", "M"), ("set", "N", 1), ("set", "N", "N"), ("set", "A", -1), ("set", "A", 9973), ("set", "A", True),
    ("set", "A", False), ("set", "A", None), ("set", "A", "1"), ("set", "A", [1]), ("set", "A", ("N",)),
    ("set", "A", "NN"), ("set", "A", ""), ("set", "x", 1),
    ("copy", "A"), ("copy", "A", "N"), ("copy", "N", "A"), ("copy", "A", 1), ("copy", "A", "B", "C"),
    ("copy", "A", "E"), ("copy", "a", "b"), ("copy", "AB", "A"), ("copy", "", "A"), ("copy", "A", "ABCD"),
    ("copy", ["A"], "A"), ("copy", "A", ("A",)), ("copy", "A", None), ("copy", True, "A"), ("copy", "A", "x"),
    ("add", "A", "B"), ("add", "A", "B", "N"), ("add", "N", "B", "A"), ("add", "A", "B", 1),
    ("add", "A", "B", "C", "D"),
    ("get",), ("get", "N"), ("get", "A", "B"), ("get", 1), ("put",), ("put", "N"), ("put", "E"), ("put", "Z"),
    ("div", "A", "B", "C"), ("SET", "A", 1), ("", "A"), (None, "A"), (["get"], "A"), (("get",), "A"), (1, "A"),
    ("go", "A"), ("if", "A", "B", "C"), ("stop",), "get", "get A", ["get", "A"], None, 0, True,
)


class IsPlugTest(unittest.TestCase):
    def right(self, thing):
        self.assertIs(is_plug(thing), True, thing)

    def wrong(self, thing):
        self.assertIs(is_plug(thing), False, thing)

    def rule(self, old, new=()):
        return ("p", ((tuple(old), tuple(new)),), ())

    def test_ordinary(self):
        self.right(PLUG)
        self.right(("p", (RULE,), ()))

    def test_names(self):
        for name in ("a", "z", "abcdef", "fold", "dead", "edges"):
            self.right((name, (RULE,), ()))
        for name in (
            "", "abcdefg", "A", "aB", "a1", "a b", "a ", " a", "a\n", "a_", "\u00e4", None, 1, True, ("a",), ["a"],
        ):
            self.wrong((name, (RULE,), ()))

    def test_how_many_rules(self):
        for many in range(1, 7):
            self.right(("p", (RULE,) * many, ()))
        for many in (0, 7, 8):
            self.wrong(("p", (RULE,) * many, ()))

    def test_how_many_forms_of_old(self):
        for many in (1, 2, 3):
            self.right(self.rule([COPY] * many))
        for many in (0, 4, 5):
            self.wrong(self.rule([COPY] * many))

    def test_new_is_not_longer_than_old(self):
        for old, new in itertools.product(range(1, 4), range(5)):
            ask = self.right if new <= old else self.wrong
            ask(self.rule([COPY] * old, [COPY] * new))

    def test_each_word_of_a_form(self):
        for form in FORMS:
            self.right(self.rule([form]))
            self.right(self.rule([COPY, form, COPY]))
            self.right(self.rule([form], [form]))

    def test_what_are_no_forms(self):
        for form in NO_FORMS:
            self.wrong(self.rule([form]))
            self.wrong(self.rule([COPY, form]))
            self.wrong(self.rule([COPY, ("set", "C", "N")], [form]))
            self.wrong(self.rule([COPY, ("add", "A", "B", "C"), ("set", "D", "N")], [COPY, form]))

    def test_values(self):
        for value in (0, 1, 9972):
            self.right(self.rule([("set", "A", value)]))
            self.right(self.rule([COPY], [("set", "A", value)]))
        for value in (-1, 9973, True, False, None, "0", "A", 1.0):
            self.wrong(self.rule([("set", "A", value)]))
            self.wrong(self.rule([COPY], [("set", "A", value)]))

    def test_n_in_set_alone(self):
        self.right(self.rule([("set", "A", "N")]))
        for word in ("add", "sub", "mul", "less", "same"):
            for at in (1, 2, 3):
                form = [word, "A", "A", "A"]
                form[at] = "N"
                self.wrong(self.rule([tuple(form)]))
                self.wrong(self.rule([("set", "A", "N"), tuple(form)]))

    def test_other_signs(self):
        for sign in ("A", "B", "C", "D"):
            self.right(self.rule([("get", sign)], [("put", sign)]))
        for sign in ("E", "M", "O", "Z", "a", "x", "", "AA", "AB", "BC", "1", " A", "@"):
            self.wrong(self.rule([("get", sign)]))
            self.wrong(self.rule([("copy", "A", sign)]))
            self.wrong(self.rule([("copy", sign, "A")], [("get", "A")]))

    def test_signs_of_new_are_in_old(self):
        self.right(self.rule([("get", "A"), ("get", "B")], [("copy", "A", "B")]))
        self.right(self.rule([("add", "D", "C", "B")], [("sub", "B", "C", "D")]))
        self.wrong(self.rule([("get", "A")], [("get", "B")]))
        self.wrong(self.rule([("copy", "A", "B")], [("add", "A", "B", "C")]))
        self.wrong(self.rule([("copy", "A", "B")], [("copy", "A", "D")]))
        self.wrong(self.rule([("get", "A"), ("get", "B")], [("get", "A"), ("get", "C")]))

    def test_n_of_new_is_in_old(self):
        self.right(self.rule([("set", "A", "N")], [("set", "A", "N")]))
        self.right(self.rule([("get", "B"), ("set", "A", "N")], [("set", "B", "N")]))
        self.wrong(self.rule([("get", "A")], [("set", "A", "N")]))
        self.wrong(self.rule([("set", "A", 1)], [("set", "A", "N")]))

    def test_signs_of_old_need_not_be_in_new(self):
        self.right(self.rule([("add", "A", "B", "C")], [("set", "A", 0)]))
        self.right(self.rule([("set", "A", "N")], [("set", "A", 7)]))

    def test_signs_of_another_rule_do_not_count(self):
        self.wrong(("p", (((("copy", "A", "B"),), ()), ((("get", "A"),), (("put", "B"),))), ()))

    def test_keeps(self):
        self.right(("p", (RULE,), ()))
        for name in FACT_NAMES:
            self.right(("p", (RULE,), (name,)))
            self.wrong(("p", (RULE,), (name, name)))
            self.wrong(("p", (RULE,), ("edges", name, "reach", name)))
        self.right(("p", (RULE,), FACT_NAMES))
        self.right(("p", (RULE,), FACT_NAMES[::-1]))
        for name in ("edge", "fold", "", "EDGES", None, 0, True, ["edges"], ("edges",), ([],)):
            self.wrong(("p", (RULE,), (name,)))
            self.wrong(("p", (RULE,), ("edges", name)))
        for keeps in (None, "", "edges", [], ["edges"], 0, True, {}):
            self.wrong(("p", (RULE,), keeps))

    def test_lengths_and_kinds(self):
        for thing in (
            (), ("p",), ("p", (RULE,)), ("p", (RULE,), (), ()), ((RULE,), "p", ()), ["p", (RULE,), ()], "p",
            ("p", RULE, ()), ("p", None, ()), ("p", "", ()), ("p", [RULE], ()), ("p", (RULE,), [])
        ):
            self.wrong(thing)

    def test_lengths_and_kinds_of_rules(self):
        for rule in (
            (), (COPY,), ((COPY,),), ((COPY,), (), ()), [(COPY,), ()], ([COPY], ()), ((COPY,), []), (COPY, ()),
            ((COPY,), COPY), ((COPY,), None), (None, ()), ("", ""), "ab", None, 0, True,
        ):
            self.wrong(("p", (rule,), ()))
            self.wrong(("p", (RULE, rule), ()))

    def test_lists_where_tuples_are_asked_for(self):
        for thing in with_each_tuple_a_list(PLUG):
            self.wrong(thing)

    def test_wrong_things_deep_within(self):
        for wrong in NOWHERE_RIGHT:
            # A is a sign, and a pass may be called abcd: these may be right within.
            if wrong not in ("A", "abcd"):
                for thing in with_each_node_replaced(PLUG, wrong):
                    self.wrong(thing)

    def test_any_thing_is_taken(self):
        for thing in (*NOWHERE_RIGHT, 0, 1, {}, 1.5, b"a", (1, 2, 3), ([], [], []), ("p", ((((((),),),),),), ())):
            self.wrong(thing)

    def test_the_same_again(self):
        for thing in (PLUG, (), [PLUG]):
            self.assertIs(is_plug(thing), is_plug(thing))

    def test_what_is_handed_in_is_not_changed(self):
        thing = ["p", [[[["copy", "A", "B"]], []]], ["edges"]]
        before = copy.deepcopy(thing)
        self.wrong(thing)
        self.wrong(tuple(thing))
        self.assertEqual(thing, before)


if __name__ == "__main__":
    unittest.main()
