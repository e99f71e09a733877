"""Mills: plugging, facts that are made, kept and dropped, passes, wary mills and lies."""

import copy
import itertools
import random
import unittest

from asking import LIAR, MUTE, RULE, all_of, with_all_facts
from made import DIAMOND, FACT_NAMES, MADE, PLUGS, POOLED, SHAPES, UNREACHED
from passmill.errors import NoBack, NoFact, NoLine, NoPass, NoPlug, NoProgram, Taken
from passmill.facts import fact, hangs_on
from passmill.halves import after
from passmill.lines import line_text
from passmill.mills import Mill
from passmill.running import run
from samples import ALL_WORDS, NOWHERE_RIGHT, STOP, one_block, wrong_programs
from slow_mill import SlowMill
from slow_passes import HANGS, KEEPS, NEEDS, OWN

# Does the same, and says that it keeps what it does.
HONEST = ("honest", LIAR[1], ("copies", "doms", "edges", "live", "reach", "sums", "uses"))

# Each turns many programs, and says that it keeps all.
BREAKERS = (
    ("muter", (RULE,), FACT_NAMES),
    ("getter", (((("copy", "A", "B"),), (("get", "A"),)),), FACT_NAMES),
    ("setter", (((("add", "A", "B", "C"),), (("set", "A", 5),)), ((("set", "A", 5),), ())), FACT_NAMES),
    ("leaver", (((("sub", "A", "B", "C"),), ()), ((("get", "A"),), ())), FACT_NAMES),
    ("mixer", (((("put", "A"), ("set", "B", "N")), (("set", "B", "N"), ("put", "A"))),), FACT_NAMES),
)

# A turn for each pass: what it does is turned by it alone.
TURNED_BY = {
    "fold": one_block([("set", "x", 1), ("copy", "y", "x"), ("put", "y"), ("put", "x")]),
    "bend": (("a", (), ("if", "x", "b", "a")), ("b", (), ("stop",))),
    "spread": one_block([("get", "x"), ("copy", "y", "x"), ("put", "y")]),
    "reuse": one_block([("get", "x"), ("add", "y", "x", "x"), ("add", "z", "x", "x"), ("put", "y"), ("put", "z")]),
    "dead": one_block([("set", "x", 1)]),
    "prune": UNREACHED,
    "join": (("a", (("get", "x"),), ("go", "b")), ("b", (("put", "x"),), ("stop",))),
    "skip": (("a", (("get", "x"),), ("go", "b")), ("b", (), ("go", "c")), ("c", (("put", "x"),), ("stop",))),
}


class NewMillTest(unittest.TestCase):
    def test_nothing_went(self):
        for program in SHAPES:
            for mill in (Mill(program), Mill(program, wary=True), Mill(program, wary=False)):
                self.assertEqual(all_of(mill), (program, [], [], [program], [], 0, ""))

    def test_no_program(self):
        for thing in (*wrong_programs(), (), *NOWHERE_RIGHT):
            before = copy.deepcopy(thing)
            with self.assertRaises(NoProgram, msg=thing):
                Mill(thing)
            with self.assertRaises(NoProgram, msg=thing):
                Mill(thing, wary=True)
            self.assertEqual(thing, before)

    def test_wary_by_name_alone(self):
        with self.assertRaises(TypeError):
            Mill(STOP, True)

    def test_mills_have_nothing_in_common(self):
        one, other = Mill(ALL_WORDS), Mill(ALL_WORDS)
        one.plug(MUTE)
        one.fact("doms")
        one.do_pass("mute")
        self.assertEqual(all_of(other), (ALL_WORDS, [], [], [ALL_WORDS], [], 0, ""))
        other.plug(MUTE)


class PlugTest(unittest.TestCase):
    def refused(self, mill, error, thing):
        before = copy.deepcopy((thing, all_of(mill)))
        with self.assertRaises(error, msg=thing):
            mill.plug(thing)
        self.assertEqual((thing, all_of(mill)), before)

    def test_a_plugged_pass_goes(self):
        mill = Mill(ALL_WORDS)
        self.assertIsNone(mill.plug(MUTE))
        self.assertIs(mill.do_pass("mute"), True)
        self.assertEqual(mill.program(), after(ALL_WORDS, ["mute"], plugs=[MUTE]))

    def test_several(self):
        mill = Mill(ALL_WORDS)
        for plug in PLUGS:
            mill.plug(plug)
        for plug in PLUGS:
            ahead = mill.program()
            mill.do_pass(plug[0])
            self.assertEqual(mill.program(), after(ahead, [plug[0]], plugs=[plug]))

    def test_no_plug(self):
        mill = Mill(ALL_WORDS)
        mill.do_pass("fold")
        for thing in (*NOWHERE_RIGHT, (), "mute", list(MUTE), ("mute", (RULE,)), ("mute", [RULE], ()),
                      ("Mute", (RULE,), ()), ("mute", (), ()), ("mute", (RULE,), ("edge",)), [MUTE], (MUTE,), {}, 0):
            self.refused(mill, NoPlug, thing)

    def test_taken(self):
        mill = Mill(ALL_WORDS)
        for name in OWN:
            self.refused(mill, Taken, (name, (RULE,), ()))
        mill.plug(MUTE)
        self.refused(mill, Taken, MUTE)
        other = ("mute", (((("get", "A"),), ()),), ())
        self.refused(mill, Taken, other)
        mill.do_pass("mute")
        self.assertEqual(mill.program(), after(ALL_WORDS, ["mute"], plugs=[MUTE]))

    def test_no_plug_comes_ahead_of_taken(self):
        mill = Mill(ALL_WORDS)
        mill.plug(MUTE)
        for name in ("fold", "mute"):
            self.refused(mill, NoPlug, (name, (), ()))

    def test_what_is_refused_is_not_plugged(self):
        mill = Mill(ALL_WORDS)
        self.refused(mill, NoPlug, ["mute", (RULE,), ()])
        with self.assertRaises(NoPass):
            mill.do_pass("mute")
        mill.plug(MUTE)

    def test_names_of_facts_are_free(self):
        mill = Mill(ALL_WORDS)
        mill.plug(("consts", (RULE,), ()))
        self.assertIs(mill.do_pass("consts"), True)


class FactTest(unittest.TestCase):
    def test_each_fact(self):
        for program in SHAPES:
            for name in FACT_NAMES:
                mill = Mill(program)
                self.assertEqual(mill.fact(name), fact(program, name))
                self.assertEqual(mill.facts(), sorted({name, *hangs_on(name)}))
                self.assertEqual(mill.fact(name), fact(program, name))

    def test_those_on_which_one_hangs_are_kept_too(self):
        mill = Mill(DIAMOND)
        for name, facts in (
            ("uses", ["uses"]), ("edges", ["edges", "uses"]), ("live", ["edges", "live", "uses"]),
            ("doms", ["doms", "edges", "live", "reach", "uses"]), ("reach", ["doms", "edges", "live", "reach", "uses"]),
        ):
            mill.fact(name)
            self.assertEqual(mill.facts(), facts)

    def test_asking_is_no_pass(self):
        mill = with_all_facts(DIAMOND)
        self.assertEqual(all_of(mill), (DIAMOND, sorted(FACT_NAMES), [], [DIAMOND], [], 0, ""))

    def test_no_fact(self):
        mill = Mill(DIAMOND)
        mill.fact("edges")
        before = all_of(mill)
        for thing in (*NOWHERE_RIGHT, "", "edge", "Edges", "fold", "edges ", 0, (), ("edges",), ["edges"], {}):
            with self.assertRaises(NoFact, msg=thing):
                mill.fact(thing)
            self.assertEqual(all_of(mill), before)

    def test_a_new_list_each_time(self):
        mill = Mill(DIAMOND)
        mill.fact("edges")
        mill.facts().append("doms")
        mill.facts().clear()
        self.assertEqual(mill.facts(), ["edges"])


class DoPassTest(unittest.TestCase):
    def test_turning(self):
        for name in OWN:
            for wary in (False, True):
                mill = Mill(TURNED_BY[name], wary=wary)
                self.assertIs(mill.do_pass(name), True)
                self.assertEqual(mill.program(), after(TURNED_BY[name], [name], plugs=[]))
                self.assertNotEqual(mill.program(), TURNED_BY[name])

    def test_not_turning(self):
        for name in OWN:
            for wary in (False, True):
                mill = Mill(STOP, wary=wary)
                self.assertIs(mill.do_pass(name), False)
                self.assertEqual(mill.program(), STOP)
                need = NEEDS[name]
                self.assertEqual(mill.facts(), sorted({need, *HANGS[need]}))
                self.assertEqual(mill.log(), [(name, False, (*HANGS[need], need), (), ())])

    def test_what_is_made_for_a_pass(self):
        for name in OWN:
            mill = Mill(TURNED_BY[name])
            mill.do_pass(name)
            need = NEEDS[name]
            made = (*HANGS[need], need)
            self.assertEqual(mill.log()[0][:4], (name, True, made, ()))
            stay = [other for other in made if other in mill.facts()]
            self.assertEqual(mill.log()[0][4], tuple(sorted(set(made) - set(stay))))

    def test_what_was_kept_is_not_made(self):
        for name in OWN:
            need = NEEDS[name]
            mill = Mill(STOP)
            mill.fact(need)
            mill.do_pass(name)
            self.assertEqual(mill.log(), [(name, False, (), (need,), ())])

    def test_what_it_hangs_on_was_kept(self):
        for name in ("fold", "bend", "spread", "reuse", "dead", "prune"):
            mill = Mill(STOP)
            mill.fact("edges")
            mill.do_pass(name)
            # The pass needs one fact: that on which it hangs is neither made nor needed by the pass.
            self.assertEqual(mill.log(), [(name, False, (NEEDS[name],), (), ())])

    def test_plugged_ones_need_nothing(self):
        mill = Mill(ALL_WORDS)
        mill.plug(MUTE)
        self.assertIs(mill.do_pass("mute"), True)
        self.assertIs(mill.do_pass("mute"), False)
        self.assertEqual(mill.log(), [("mute", True, (), (), ()), ("mute", False, (), (), ())])
        self.assertEqual(mill.facts(), [])

    def test_which_facts_stay(self):
        stay = {
            "fold": ["consts", "doms", "edges", "reach"],
            "bend": [],
            "spread": ["consts", "doms", "edges", "reach"],
            "reuse": ["doms", "edges", "reach"],
            "dead": ["doms", "edges", "reach"],
            # It keeps "doms" and "reach", but not "edges", on which both hang.
            "prune": [],
            "join": ["uses"],
            "skip": ["uses"],
        }
        for name in OWN:
            for wary in (False, True):
                mill = with_all_facts(TURNED_BY[name], wary=wary)
                self.assertIs(mill.do_pass(name), True)
                self.assertEqual(mill.facts(), stay[name])
                dropped = tuple(sorted(set(FACT_NAMES) - set(stay[name])))
                self.assertEqual(mill.log(), [(name, True, (), (NEEDS[name],), dropped)])
                self.assertEqual(mill.lies(), [])

    def test_nothing_is_dropped_where_nothing_turned(self):
        for name in OWN:
            mill = with_all_facts(STOP)
            mill.do_pass(name)
            self.assertEqual(mill.facts(), sorted(FACT_NAMES))
            self.assertEqual(mill.log()[0][4], ())

    def test_facts_behind_a_pass(self):
        for name in OWN:
            mill = with_all_facts(TURNED_BY[name])
            mill.do_pass(name)
            for other in FACT_NAMES:
                self.assertEqual(mill.fact(other), fact(mill.program(), other))

    def test_what_a_plugged_pass_keeps(self):
        for keeps, stay in (
            ((), []), (("edges",), ["edges"]), (("doms",), []), (("reach", "doms"), []), (("uses",), ["uses"]),
            (("doms", "edges"), ["edges"]), (("edges", "reach"), ["edges", "reach"]), (("live", "uses"), ["uses"]),
            (("doms", "reach", "edges"), ["doms", "edges", "reach"]), (("consts", "sums", "copies"), []),
            (("sums", "edges"), ["edges", "sums"]), (FACT_NAMES, sorted(FACT_NAMES)),
        ):
            mill = with_all_facts(ALL_WORDS, ("plug", (RULE,), keeps))
            self.assertIs(mill.do_pass("plug"), True)
            self.assertEqual(mill.facts(), stay)
            self.assertEqual(mill.log()[0][4], tuple(sorted(set(FACT_NAMES) - set(stay))))

    def test_only_kept_ones_are_dropped(self):
        mill = Mill(ALL_WORDS)
        mill.plug(MUTE)
        mill.fact("live")
        mill.do_pass("mute")
        self.assertEqual(mill.log(), [("mute", True, (), (), ("edges", "live"))])

    def test_no_pass(self):
        mill = Mill(ALL_WORDS)
        mill.plug(MUTE)
        mill.do_pass("spread")
        before = all_of(mill)
        for thing in (*NOWHERE_RIGHT, "", "none", "Fold", "fold ", "edges", 0, (), ("fold",), ["fold"], {}, MUTE):
            with self.assertRaises(NoPass, msg=thing):
                mill.do_pass(thing)
            self.assertEqual(all_of(mill), before)


class LiesTest(unittest.TestCase):
    PROGRAM = (
        ("a", (("set", "x", 1),), ("go", "b")),
        ("b", (("copy", "y", "x"), ("put", "y")), ("stop",)),
    )

    def test_a_wary_mill_tells_and_drops(self):
        mill = with_all_facts(self.PROGRAM, LIAR, wary=True)
        self.assertIs(mill.do_pass("liar"), True)
        self.assertEqual(mill.lies(), [(0, "liar", "consts")])
        self.assertEqual(mill.facts(), sorted(set(FACT_NAMES) - {"consts"}))
        self.assertEqual(mill.log(), [("liar", True, (), (), ("consts",))])
        self.assertEqual(mill.fact("consts"), fact(mill.program(), "consts"))

    def test_another_one_keeps_what_is_false(self):
        mill = with_all_facts(self.PROGRAM, LIAR)
        mill.do_pass("liar")
        self.assertEqual(mill.lies(), [])
        self.assertEqual(mill.facts(), sorted(FACT_NAMES))
        self.assertEqual(mill.log(), [("liar", True, (), (), ())])
        self.assertEqual(mill.fact("consts"), fact(self.PROGRAM, "consts"))
        self.assertNotEqual(mill.fact("consts"), fact(mill.program(), "consts"))

    def test_a_mill_is_not_wary_by_itself(self):
        mill = Mill(self.PROGRAM)
        mill.plug(LIAR)
        mill.fact("consts")
        mill.do_pass("liar")
        self.assertEqual((mill.facts(), mill.lies()), (["consts", "edges"], []))

    def test_no_pass_builds_on_what_is_false(self):
        # [0.2] (a), (c): what passes make does not hang on what was kept, and does as well.
        mill = with_all_facts(self.PROGRAM, LIAR)
        mill.do_pass("liar")
        mill.do_pass("fold")
        self.assertEqual(mill.program()[1], ("b", (("set", "y", 2), ("put", "y")), ("stop",)))
        self.assertEqual(run(mill.program(), [])[0], run(mill.versions()[1], [])[0])
        self.assertEqual(mill.log()[1], ("fold", True, (), ("consts",), ("copies", "live", "sums", "uses")))

    def test_several_lies_are_rising(self):
        breaker = ("breaks", (((("copy", "A", "B"),), (("get", "A"),)),), FACT_NAMES[::-1])
        program = (
            ("a", (("get", "x"), ("set", "z", 1), ("copy", "y", "x"), ("copy", "w", "z")), ("go", "b")),
            ("b", (("put", "y"), ("put", "w")), ("stop",)),
        )
        mill = with_all_facts(program, breaker, wary=True)
        mill.do_pass("breaks")
        self.assertEqual(mill.lies(), [(0, "breaks", "consts"), (0, "breaks", "copies"), (0, "breaks", "uses")])
        self.assertEqual(mill.log()[0][4], ("consts", "copies", "uses"))
        self.assertEqual(mill.facts(), ["doms", "edges", "live", "reach", "sums"])

    def test_an_honest_one(self):
        mill = with_all_facts(self.PROGRAM, HONEST, wary=True)
        mill.do_pass("honest")
        self.assertEqual(mill.lies(), [])
        self.assertEqual(mill.facts(), sorted(set(FACT_NAMES) - {"consts"}))

    def test_facts_that_are_not_kept_are_no_lies(self):
        mill = Mill(self.PROGRAM, wary=True)
        mill.plug(LIAR)
        mill.do_pass("liar")
        self.assertEqual(mill.lies(), [])
        self.assertEqual(mill.facts(), [])

    def test_how_many_passes_had_gone(self):
        mill = with_all_facts(self.PROGRAM, LIAR, wary=True)
        mill.do_pass("bend")
        mill.do_pass("prune")
        mill.do_pass("liar")
        self.assertEqual(mill.lies(), [(2, "liar", "consts")])

    def test_one_that_turns_nothing_does_not_lie(self):
        mill = with_all_facts(STOP, LIAR, wary=True)
        mill.do_pass("liar")
        self.assertEqual(mill.lies(), [])
        self.assertEqual(mill.facts(), sorted(FACT_NAMES))

    def test_what_is_not_true_only_here_is_no_lie(self):
        # That it keeps "consts" is wrong in general, but x is known to bear 0 behind this.
        mill = with_all_facts(one_block([("set", "x", 1), ("set", "x", 0)]), LIAR, wary=True)
        self.assertIs(mill.do_pass("liar"), True)
        self.assertEqual(mill.lies(), [])

    def test_passes_always_there_do_not_lie(self):
        for number, program in enumerate((*SHAPES, *MADE[::5], *POOLED[::3])):
            for name in OWN:
                mill = with_all_facts(program, wary=True)
                turned = mill.do_pass(name)
                self.assertEqual(mill.lies(), [])
                if turned:
                    expected = set() if name == "prune" else set(KEEPS[name])
                    self.assertEqual(mill.facts(), sorted(expected))


class ManyMillsTest(unittest.TestCase):
    def same(self, mill, slow):
        state = slow.state
        self.assertEqual(mill.program(), state["program"])
        self.assertEqual(mill.facts(), sorted(state["kept"]))
        self.assertEqual(mill.log(), state["log"])
        self.assertEqual(mill.versions(), state["versions"])
        self.assertEqual(mill.lies(), state["lies"])
        self.assertEqual(len(mill), len(state["log"]))
        self.assertEqual(str(mill), " ".join(row[0] for row in state["log"]))

    def do_one(self, source, mill, slow, names):
        """Do one thing with both mills; what they tell must be the same."""
        what = source.random()
        if what < 0.35:
            name = source.choice(FACT_NAMES)
            slow.ask(name)
            self.assertEqual(mill.fact(name), slow.state["kept"][name])
        elif what < 0.5 and slow.state["log"]:
            self.assertEqual(mill.back(), slow.back())
        elif what < 0.6:
            items = [source.choice(names), (source.choice((2, None)), tuple(source.sample(names, 2)))]
            self.assertEqual(mill.do_line(line_text(items)), slow.do_line(line_text(items)))
        else:
            name = source.choice(names)
            self.assertIs(mill.do_pass(name), slow.do_pass(name))

    def test_what_a_plain_model_tells(self):
        lies = 0
        for number, program in enumerate((*SHAPES, *MADE[:80], *POOLED[:110])):
            source = random.Random(number)
            wary = source.random() < 0.6
            mill, slow = Mill(program, wary=wary), SlowMill(program, wary)
            for plug in source.sample((*PLUGS[::12], *BREAKERS), source.randint(0, 10)):
                mill.plug(plug)
                slow.plugs.append(plug)
            names = [*OWN, *(plug[0] for plug in slow.plugs)]
            for name in FACT_NAMES if number % 2 else ():
                mill.fact(name)
                slow.ask(name)
            for _ in range(14):
                self.do_one(source, mill, slow, names)
                self.same(mill, slow)
            lies += len(mill.lies())
        self.assertGreater(lies, 30)

    def test_what_is_kept_is_as_made_anew(self):
        for number, program in enumerate((*SHAPES, *MADE[80:160], *POOLED[110:])):
            source = random.Random(number)
            plugs = source.sample(PLUGS, 6) if number % 2 else []
            mill = with_all_facts(program, *plugs, wary=number % 2 == 1)
            names = [*OWN, *(plug[0] for plug in plugs)]
            for _ in range(8):
                mill.do_pass(source.choice(names))
                for name in mill.facts():
                    self.assertEqual(mill.fact(name), fact(mill.program(), name), (program, mill.log()))

    def test_what_passes_make_does_not_hang_on_what_was_kept(self):
        for number, program in enumerate((*SHAPES, *MADE[160:220], *POOLED[::2])):
            source = random.Random(number)
            plugs = source.sample(PLUGS, 5)
            names = [source.choice([*OWN, *(plug[0] for plug in plugs)]) for _ in range(10)]
            mills = []
            for wary, asked in itertools.product((False, True), repeat=2):
                mill = Mill(program, wary=wary)
                for plug in plugs:
                    mill.plug(plug)
                for name in names:
                    if asked:
                        mill.fact(source.choice(FACT_NAMES))
                    mill.do_pass(name)
                mills.append(mill)
            for mill in mills:
                self.assertEqual(mill.program(), after(program, names, plugs=plugs))
                self.assertEqual(mill.versions(), [after(program, names[:many], plugs=plugs) for many in range(11)])

    def test_the_same_again(self):
        told = []
        for _ in range(2):
            mill = with_all_facts(POOLED[3], *PLUGS[:4], wary=True)
            mill.do_line("(fold plugaa spread plugab)2 (dead join)+")
            told.append(all_of(mill))
        self.assertEqual(*told)


class RefusalsChangeNothingTest(unittest.TestCase):
    def test_each(self):
        mill = with_all_facts(ALL_WORDS, LIAR, wary=True)
        mill.do_line("liar spread dead")
        before = all_of(mill)
        for error, call in (
            (NoPlug, lambda: mill.plug(None)), (Taken, lambda: mill.plug(LIAR)), (NoFact, lambda: mill.fact("fold")),
            (NoPass, lambda: mill.do_pass("consts")), (NoLine, lambda: mill.do_line("fold  dead")),
            (NoPass, lambda: mill.do_line("fold dead none")),
        ):
            with self.assertRaises(error):
                call()
            self.assertEqual(all_of(mill), before)
        for _ in range(3):
            mill.back()
        before = all_of(mill)
        with self.assertRaises(NoBack):
            mill.back()
        self.assertEqual(all_of(mill), before)


if __name__ == "__main__":
    unittest.main()
