"""Mills: lines, log, versions, lies, back, len and str."""

import random
import unittest

from asking import LIAR, MUTE, all_of, with_all_facts
from made import CHAIN, FACT_NAMES, MADE, PLUGS, POOLED, SHAPES, straight
from passmill.errors import NoBack, NoLine, NoPass
from passmill.facts import fact
from passmill.halves import after
from passmill.lines import line_text
from passmill.mills import Mill
from passmill.programs import size_of
from samples import NOWHERE_RIGHT, STOP, one_block
from slow_passes import OWN

# Turns each time it goes, and comes back to the same each second time.
FLIP = ("flip", (((("put", "A"), ("put", "B")), (("put", "B"), ("put", "A"))),), ())
FLIPPED = one_block([("get", "x"), ("put", "x"), ("put", "y")])

CALLED = one_block([("set", "x", 2), ("copy", "y", "x"), ("put", "y")])

NO_LINES = (
    None, True, 0, "fold ", " fold", "fold  dead", "(fold)", "(fold", "()2", "foldfold", "Fold", ["fold"], ("fold",),
    (), [], "fold (dead)0", "(((((fold)1)1)1)1)1",
    *(thing for thing in NOWHERE_RIGHT if thing not in ("", "abcd", "a b")),
)


def milled(program, *plugs, wary=False):
    """A mill with these plugged passes."""
    mill = Mill(program, wary=wary)
    for plug in plugs:
        mill.plug(plug)
    return mill


class DoLineTest(unittest.TestCase):
    def goes(self, text, names, program=STOP, plugs=(MUTE, FLIP)):
        """What goes by a line is the same as these passes one by one."""
        mill, other = milled(program, *plugs), milled(program, *plugs)
        names = names.split()
        self.assertEqual(mill.do_line(text), len(names))
        for name in names:
            other.do_pass(name)
        self.assertEqual(all_of(mill), all_of(other))
        self.assertEqual(str(mill), " ".join(names))

    def test_the_empty_line(self):
        mill = Mill(CALLED)
        self.assertEqual(mill.do_line(""), 0)
        self.assertEqual(all_of(mill), (CALLED, [], [], [CALLED], [], 0, ""))

    def test_names(self):
        self.goes("fold", "fold", CALLED)
        self.goes("fold dead", "fold dead", CALLED)
        self.goes("dead fold dead mute dead", "dead fold dead mute dead", CALLED)
        self.goes(" ".join(OWN), " ".join(OWN), CALLED)

    def test_figures(self):
        self.goes("(fold)1", "fold", CALLED)
        self.goes("(fold dead)3 skip", "fold dead fold dead fold dead skip", CALLED)
        self.goes("(fold)9", "fold " * 9, CALLED)
        self.goes("(flip)5", "flip " * 5, FLIPPED)

    def test_brackets_within_one_another(self):
        self.goes("((fold)2 dead)2", "fold fold dead fold fold dead", CALLED)
        self.goes("(((fold)2)2 (skip)1)2", "fold fold fold fold skip " * 2)
        self.goes("((((join)2)2)2)2", "join " * 16)

    def test_till_nothing_turns(self):
        self.goes("(fold)+", "fold")
        self.goes("(fold)+", "fold fold", CALLED)
        # The first round turns something, the second one nothing.
        self.goes("(fold dead)+", "fold dead fold dead", CALLED)
        self.goes("(dead fold)+", "dead fold dead fold dead fold", CALLED)
        self.goes("(dead fold)+ skip (mute)+", "dead fold dead fold dead fold skip mute mute", CALLED)

    def test_the_twentieth_round(self):
        self.goes("(flip)+", "flip " * 20, FLIPPED)
        self.goes("(fold flip)+ fold", "fold flip " * 20 + "fold", FLIPPED)
        mill = Mill(CHAIN)
        self.assertEqual(mill.do_line("(dead)+"), 20)
        self.assertEqual(size_of(mill.program()), size_of(CHAIN) - 20)
        self.assertIs(mill.log()[-1][1], True)

    def test_a_round_in_which_one_undoes_the_other_turns(self):
        # The program is behind each round as ahead of it, but passes turned it.
        self.goes("(flip flip)+", "flip flip " * 20, FLIPPED)
        self.goes("((flip)2)+", "flip flip " * 20, FLIPPED)

    def test_a_bracket_within_one_till_nothing_turns(self):
        self.goes("((fold)+ dead)+", "fold fold dead fold dead", CALLED)
        self.goes("((fold)2 dead)+", "fold fold dead fold fold dead", CALLED)
        self.goes("((dead)+ (fold)+)+", "dead fold fold dead dead fold dead fold", CALLED)

    def test_within_a_figure(self):
        self.goes("((fold)+)2", "fold fold fold", CALLED)
        self.goes("((flip)+)2", "flip " * 40, FLIPPED)

    def test_twenty_times_twenty(self):
        mill = milled(FLIPPED, FLIP)
        self.assertEqual(mill.do_line("((flip)+)+"), 400)
        self.assertEqual(mill.program(), FLIPPED)
        self.assertEqual(len(mill), 400)

    def test_how_many_went(self):
        mill = milled(CALLED, MUTE)
        mill.do_line("fold dead")
        self.assertEqual(mill.do_line("mute"), 1)
        self.assertEqual(mill.do_line(""), 0)
        self.assertEqual(len(mill), 3)

    def test_no_line(self):
        for text in NO_LINES:
            mill = Mill(CALLED)
            before = all_of(mill)
            with self.assertRaises(NoLine, msg=text):
                mill.do_line(text)
            self.assertEqual(all_of(mill), before)

    def test_the_place_is_told(self):
        for text, at in (("fold  dead", 4), (None, 0), ("none (", 6), ("(fold)", 6)):
            with self.assertRaises(NoLine) as caught:
                Mill(CALLED).do_line(text)
            self.assertEqual(caught.exception.at, at)

    def test_no_pass_ahead_of_anything_that_goes(self):
        mill = milled(CALLED, MUTE)
        mill.do_pass("spread")
        before = all_of(mill)
        for text in ("none", "fold none", "none fold", "(none)2", "fold (dead none)3", "((none)1)+", "flip",
                     "fold (dead (skip (join none)1)1)1", "(fold)+ (dead)+ none", "consts", "fold mute flip"):
            with self.assertRaises(NoPass, msg=text):
                mill.do_line(text)
            self.assertEqual(all_of(mill), before)

    def test_no_line_comes_ahead_of_no_pass(self):
        for text in ("none  fold", "none (", "(none)0", "none none ", "(none)"):
            with self.assertRaises(NoLine, msg=text):
                Mill(CALLED).do_line(text)

    def test_many_lines(self):
        for number, program in enumerate((*SHAPES, *MADE[:40], *POOLED[:60])):
            source = random.Random(number)
            plugs = source.sample(PLUGS, 3)
            names = [*OWN, *(plug[0] for plug in plugs)]
            inner = (source.choice((1, 3, None)), tuple(source.sample(names, 2)))
            items = [source.choice(names), (source.choice((2, None)), (inner, source.choice(names)))]
            mill, other = milled(program, *plugs, wary=True), milled(program, *plugs, wary=True)
            self.assertEqual(mill.do_line(line_text(items)), len(mill))
            for name in str(mill).split():
                other.do_pass(name)
            self.assertEqual(all_of(mill), all_of(other))


class ToldTest(unittest.TestCase):
    def test_behind_several(self):
        mill = Mill(CALLED)
        mill.do_line("fold dead skip")
        once = after(CALLED, ["fold"], plugs=[])
        twice = after(once, ["dead"], plugs=[])
        self.assertEqual(mill.versions(), [CALLED, once, twice, twice])
        self.assertEqual(mill.program(), twice)
        self.assertEqual(len(mill), 3)
        self.assertEqual(str(mill), "fold dead skip")
        self.assertEqual(mill.log(), [
            ("fold", True, ("edges", "consts"), (), ()),
            ("dead", True, ("live",), (), ("consts", "live")),
            ("skip", False, (), ("edges",), ()),
        ])
        self.assertEqual(mill.lies(), [])

    def test_a_longer_log(self):
        mill = milled(CALLED, MUTE)
        mill.fact("uses")
        mill.do_pass("prune")
        mill.fact("doms")
        mill.do_line("spread reuse mute dead fold")
        self.assertEqual(mill.log(), [
            ("prune", False, ("edges", "reach"), (), ()),
            ("spread", True, ("copies",), (), ("copies", "uses")),
            ("reuse", False, ("sums",), (), ()),
            ("mute", True, (), (), ("doms", "edges", "reach", "sums")),
            ("dead", True, ("edges", "live"), (), ("live",)),
            ("fold", False, ("consts",), (), ()),
        ])
        self.assertEqual(mill.facts(), ["consts", "edges"])

    def test_kinds(self):
        mill = with_all_facts(CALLED, LIAR, wary=True)
        mill.do_line("fold liar dead")
        for told in (mill.log(), mill.versions(), mill.lies(), mill.facts()):
            self.assertIs(type(told), list)
        for row in mill.log():
            self.assertIs(type(row), tuple)
            self.assertEqual([type(part) for part in row], [str, bool, tuple, tuple, tuple])
        self.assertIs(type(str(mill)), str)
        self.assertIs(type(len(mill)), int)
        self.assertIs(type(mill.program()), tuple)

    def test_lists_may_be_changed(self):
        mill = with_all_facts(straight([("set", "x", 1)]), LIAR, wary=True)
        mill.do_line("liar fold")
        self.assertTrue(mill.lies())
        before = all_of(mill)
        for told in (mill.log(), mill.versions(), mill.lies(), mill.facts()):
            told.append(None)
            del told[0]
        self.assertEqual(all_of(mill), before)
        for told in (mill.log(), mill.versions(), mill.lies(), mill.facts()):
            told.clear()
        self.assertEqual(all_of(mill), before)
        mill.back()
        mill.do_pass("fold")
        self.assertEqual(all_of(mill), before)


class BackTest(unittest.TestCase):
    def test_one(self):
        mill = Mill(CALLED)
        mill.do_pass("fold")
        self.assertEqual(mill.back(), "fold")
        self.assertEqual(all_of(mill), (CALLED, [], [], [CALLED], [], 0, ""))

    def test_one_that_turned_nothing(self):
        mill = Mill(CALLED)
        mill.do_pass("bend")
        self.assertEqual(mill.facts(), ["consts", "edges"])
        self.assertEqual(mill.back(), "bend")
        self.assertEqual(all_of(mill), (CALLED, [], [], [CALLED], [], 0, ""))

    def test_down_to_the_beginning(self):
        for number, program in enumerate((*SHAPES, *POOLED[:40])):
            source = random.Random(number)
            mill = milled(program, *PLUGS[:6], wary=number % 2 == 0)
            told, names = [], []
            for _ in range(8):
                if source.random() < 0.5:
                    mill.fact(source.choice(FACT_NAMES))
                told.append((all_of(mill), {name: mill.fact(name) for name in mill.facts()}))
                names.append(source.choice([*OWN, *(plug[0] for plug in PLUGS[:6])]))
                mill.do_pass(names[-1])
            while told:
                self.assertEqual(mill.back(), names.pop())
                before, facts = told.pop()
                self.assertEqual(all_of(mill), before)
                self.assertEqual({name: mill.fact(name) for name in mill.facts()}, facts)
            with self.assertRaises(NoBack):
                mill.back()

    def test_no_back(self):
        mill = with_all_facts(CALLED, MUTE)
        before = all_of(mill)
        for _ in range(2):
            with self.assertRaises(NoBack):
                mill.back()
            self.assertEqual(all_of(mill), before)
        mill.do_pass("mute")
        mill.back()
        with self.assertRaises(NoBack):
            mill.back()
        self.assertEqual(all_of(mill), before)

    def test_dropped_facts_are_kept_again(self):
        mill = with_all_facts(CALLED)
        mill.do_pass("fold")
        mill.do_pass("dead")
        self.assertEqual(mill.facts(), ["doms", "edges", "reach"])
        mill.back()
        self.assertEqual(mill.facts(), ["consts", "doms", "edges", "reach"])
        mill.back()
        self.assertEqual(mill.facts(), sorted(FACT_NAMES))
        for name in FACT_NAMES:
            self.assertEqual(mill.fact(name), fact(CALLED, name))

    def test_facts_asked_for_between_passes(self):
        mill = Mill(CALLED)
        mill.fact("uses")
        mill.do_pass("skip")
        mill.fact("doms")
        mill.do_pass("skip")
        mill.fact("live")
        self.assertEqual(mill.facts(), ["doms", "edges", "live", "reach", "uses"])
        mill.back()
        # As ahead of the pass: what was asked for behind it is gone, what was ahead of it is there.
        self.assertEqual(mill.facts(), ["doms", "edges", "reach", "uses"])
        mill.back()
        self.assertEqual(mill.facts(), ["uses"])

    def test_plugged_passes_stay(self):
        mill = milled(CALLED, MUTE)
        mill.do_pass("fold")
        mill.plug(FLIP)
        mill.back()
        self.assertIs(mill.do_pass("mute"), True)
        self.assertIs(mill.do_pass("flip"), False)

    def test_lies_are_taken_back(self):
        program = (("a", (("set", "x", 1),), ("go", "b")), ("b", (("put", "x"),), ("stop",)))
        mill = with_all_facts(program, LIAR, wary=True)
        before = all_of(mill)
        mill.do_line("skip liar")
        self.assertEqual(mill.lies(), [(1, "liar", "consts")])
        mill.do_pass("skip")
        mill.back()
        self.assertEqual(mill.lies(), [(1, "liar", "consts")])
        mill.back()
        self.assertEqual(mill.lies(), [])
        mill.back()
        self.assertEqual(all_of(mill), before)
        mill.do_pass("liar")
        self.assertEqual(mill.lies(), [(0, "liar", "consts")])

    def test_others_behind_back(self):
        mill, other = Mill(CALLED), Mill(CALLED)
        mill.do_line("fold bend dead")
        mill.back()
        mill.back()
        mill.do_line("spread dead")
        other.do_line("fold spread dead")
        self.assertEqual(all_of(mill), all_of(other))

    def test_the_last_pass_of_a_line(self):
        mill, other = Mill(CALLED), Mill(CALLED)
        mill.do_line("(fold dead)2")
        self.assertEqual(mill.back(), "dead")
        other.do_line("fold dead fold")
        self.assertEqual(all_of(mill), all_of(other))

    def test_what_was_told_ahead_stays(self):
        mill = Mill(CALLED)
        mill.do_line("fold dead")
        log, versions, facts = mill.log(), mill.versions(), mill.facts()
        copies = list(log), list(versions), list(facts)
        mill.back()
        mill.fact("sums")
        mill.do_pass("spread")
        self.assertEqual((log, versions, facts), copies)


if __name__ == "__main__":
    unittest.main()
