"""after, fine, guilty and needed."""

import copy
import itertools
import random
import unittest

import slow_passes
from made import MADE, PLUGS, POOLED, SHAPES, made_step
from passmill.errors import NoInputs, NoPasses, NoProgram
from passmill.halves import after, fine, guilty, needed
from passmill.running import as_good
from samples import ALL_WORDS, NOWHERE_RIGHT, STOP, one_block, wrong_programs
from slow_passes import OWN

RULE = ((("put", "A"),), ())
# Leaves out what is put: guilty, wherever something was.
MUTE = ("mute", (RULE,), ())
# Does nothing to most programs.
IDLE = ("idle", (((("mul", "A", "A", "A"), ("mul", "B", "B", "B")), ()),), ())
# The first makes a get of a set, the second leaves gets out: guilty only one behind the other.
OPEN = ("ready", (((("set", "A", 7),), (("get", "A"),)),), ())
SHUT = ("steady", (((("get", "A"),), (("set", "A", 3),)),), ())
# Undoes what SHUT made of it.
MEND = ("mend", (((("set", "A", 3),), (("set", "A", 7),)),), ())
PLUGGED = [MUTE, IDLE, OPEN, SHUT, MEND]

SEVEN = one_block([("set", "x", 7), ("put", "x")])
# What 7 as its input keeps fine although it comes from there.
SEVEN_IN = [7]

# Each breaks some programs; several may be needed together, or one may undo another.
BREAKERS = (
    ("ba", (((("add", "A", "B", "C"),), (("sub", "A", "B", "C"),)),), ()),
    ("bb", (((("sub", "A", "B", "C"),), (("add", "A", "B", "C"),)),), ()),
    ("bc", (((("get", "A"),), (("set", "A", 1),)),), ()),
    ("bd", (((("copy", "A", "B"),), ()),), ()),
    ("be", (((("mul", "A", "B", "C"),), (("copy", "A", "B"),)),), ()),
)
SET_BREAKERS = (
    ("sa", (((("set", "A", "N"),), (("set", "A", 3),)),), ()),
    ("sb", (((("set", "A", 3),), (("get", "A"),)),), ()),
    ("sc", (((("set", "A", 3),), (("set", "A", 0),)),), ()),
    ("sd", (((("set", "A", 0),), (("set", "A", 4),)),), ()),
)


def loud_program(number):
    """A program of a few steps that puts all that its places bear in the end; each other one sets nothing."""
    source = random.Random(number)
    steps = [("get", "a"), *(made_step(source, "abc") for _ in range(9))]
    steps = [step for step in steps if number % 2 or step[0] != "set"]
    return one_block([*steps, *(("put", place) for place in "abc")])


LOUD = tuple(loud_program(number) for number in range(150))
LOUD_INPUTS = [8, 5, 9, 0, 4]


def made_names(number):
    """Some plugged passes, and a row of names in which they come among others.

    For each other program they look for nothing but set, so that they need fold to break anything.
    """
    source = random.Random(number)
    plugs = source.sample(BREAKERS if number % 2 else SET_BREAKERS, 3)
    return plugs, [source.choice((*OWN, *[plug[0] for plug in plugs] * 2)) for _ in range(number % 9)]


NO_NAMES = (
    None, True, 0, "", "fold", (), ("fold",), {}, ["fold", None], ["fold", 1], [True], [[]], [["fold"]], [("fold",)],
    ["Fold"], ["fold "], [""], ["folds"], ["mute"], ["fold", "idle"], ["consts"], [None], [[[[[[]]]]]], [((),)],
    ["fold"] * 41, ["fold"] * 40 + ["none"], ["none"], "mute", 3, -1, [0],
)
NO_PLUGS = (
    None, True, 0, "", (), (MUTE,), MUTE, {}, {"mute": MUTE}, [None], [[]], ["mute"], [MUTE, MUTE], [MUTE, IDLE, MUTE],
    [MUTE, ("mute", IDLE[1], ())], [("fold", (RULE,), ())], [MUTE, ("skip", (RULE,), ())], [list(MUTE)],
    [("p", [RULE], ())], [("p", (), ())], [MUTE, ("p", (RULE,), ("edge",))], [(MUTE,)], [[MUTE]], [[[[[[]]]]]],
    [("mute", (RULE,), []),], [True], [0], [("Mute", (RULE,), ())],
)
NO_INPUTS = (
    None, True, 0, "", (), (1,), {}, [True], [None], [-1], [9973], ["1"], [[]], [(1,)], [0] * 31, [1, [2]],
    [[[[[[]]]]]], [0] * 30 + [-1],
)


class AfterTest(unittest.TestCase):
    def test_no_names(self):
        for program in SHAPES:
            self.assertEqual(after(program, [], plugs=[]), program)
            self.assertEqual(after(program, [], plugs=[MUTE]), program)

    def test_one_behind_the_other(self):
        program = one_block([("set", "x", 2), ("copy", "y", "x"), ("put", "y")])
        self.assertEqual(after(program, ["fold"], plugs=[]),
                         one_block([("set", "x", 2), ("set", "y", 2), ("put", "y")]))
        self.assertEqual(after(program, ["fold", "dead"], plugs=[]), one_block([("set", "y", 2), ("put", "y")]))
        self.assertEqual(after(program, ["dead", "fold"], plugs=[]),
                         one_block([("set", "x", 2), ("set", "y", 2), ("put", "y")]))
        self.assertEqual(after(program, ["spread", "dead"], plugs=[]), one_block([("set", "x", 2), ("put", "x")]))

    def test_names_of_plugged_passes(self):
        self.assertEqual(after(SEVEN, ["mute"], plugs=[MUTE]), one_block([("set", "x", 7)]))
        self.assertEqual(after(SEVEN, ["mute", "dead"], plugs=[IDLE, MUTE]), STOP)
        self.assertEqual(after(SEVEN, ["ready", "steady"], plugs=PLUGGED), one_block([("set", "x", 3), ("put", "x")]))
        self.assertEqual(after(SEVEN, ["steady", "ready"], plugs=PLUGGED), one_block([("get", "x"), ("put", "x")]))

    def test_how_many_names(self):
        for many in (39, 40):
            self.assertEqual(after(SEVEN, ["fold"] * many, plugs=[]), SEVEN)
        for many in (41, 42, 100):
            with self.assertRaises(NoPasses):
                after(SEVEN, ["fold"] * many, plugs=[])

    def test_many_plugs(self):
        self.assertEqual(after(SEVEN, [], plugs=list(PLUGS)), SEVEN)

    def test_many_rows(self):
        for number, program in enumerate((*MADE[:80], *POOLED[:80])):
            plugs = [PLUGS[number % 60], PLUGS[(number * 7 + 1) % 60]]
            if plugs[0] == plugs[1]:
                continue
            names = [plugs[0][0], OWN[number % 8], plugs[1][0], OWN[number // 8 % 8], "fold", plugs[0][0], "dead"]
            self.assertEqual(after(program, names, plugs=plugs), slow_passes.after(program, names, plugs))

    def test_no_lists_are_changed_or_kept(self):
        names, plugs = ["mute", "fold"], [MUTE, IDLE]
        before = copy.deepcopy((names, plugs))
        after(SEVEN, names, plugs=plugs)
        self.assertEqual((names, plugs), before)


class RefusalsTest(unittest.TestCase):
    def calls(self, program, names, inputs, plugs):
        """All calls that take these."""
        return (
            lambda: fine(program, names, inputs, plugs=plugs),
            lambda: guilty(program, names, inputs, plugs=plugs),
            lambda: needed(program, names, inputs, plugs=plugs),
        )

    def refused(self, error, program, names, inputs, plugs):
        before = copy.deepcopy((program, names, inputs, plugs))
        for call in self.calls(program, names, inputs, plugs):
            with self.assertRaises(error, msg=before):
                call()
        self.assertEqual((program, names, inputs, plugs), before)

    def after_refused(self, error, program, names, plugs):
        before = copy.deepcopy((program, names, plugs))
        with self.assertRaises(error, msg=before):
            after(program, names, plugs=plugs)
        self.assertEqual((program, names, plugs), before)

    def test_no_program(self):
        for thing in (*wrong_programs(), (), *NOWHERE_RIGHT):
            self.after_refused(NoProgram, thing, [], [])
            self.refused(NoProgram, thing, [], [], [])

    def test_no_program_comes_first(self):
        for names, plugs, inputs in zip(NO_NAMES, itertools.cycle(NO_PLUGS), itertools.cycle(NO_INPUTS)):
            self.after_refused(NoProgram, (), names, plugs)
            self.refused(NoProgram, [STOP], names, inputs, plugs)

    def test_no_names(self):
        for names in (*NO_NAMES, *(thing for thing in NOWHERE_RIGHT if thing != [])):
            self.after_refused(NoPasses, SEVEN, names, [])
            self.refused(NoPasses, SEVEN, names, [], [])
            self.refused(NoPasses, SEVEN, names, [9973], [])

    def test_no_plugs(self):
        for plugs in (*NO_PLUGS, *(thing for thing in NOWHERE_RIGHT if thing != [])):
            for names in ([], ["fold"]):
                self.after_refused(NoPasses, SEVEN, names, plugs)
                self.refused(NoPasses, SEVEN, names, [], plugs)
                self.refused(NoPasses, SEVEN, names, None, plugs)

    def test_names_of_plugs_that_are_not_there(self):
        self.after_refused(NoPasses, SEVEN, ["mute"], [])
        self.after_refused(NoPasses, SEVEN, ["mute"], [IDLE])
        self.refused(NoPasses, SEVEN, ["fold", "mute"], [], [IDLE])

    def test_no_inputs(self):
        for inputs in (*NO_INPUTS, *(thing for thing in NOWHERE_RIGHT if thing not in ([], [1]))):
            self.refused(NoInputs, SEVEN, [], inputs, [])
            self.refused(NoInputs, SEVEN, ["fold", "mute"], inputs, [MUTE])

    def test_parameters_by_name_alone(self):
        with self.assertRaises(TypeError):
            after(SEVEN, [], [])
        for call in (fine, guilty, needed):
            with self.assertRaises(TypeError):
                call(SEVEN, [], [], [])
            with self.assertRaises(TypeError):
                call(SEVEN, [], [])
        with self.assertRaises(TypeError):
            after(SEVEN, [])


class FineTest(unittest.TestCase):
    def test_own_passes_are(self):
        for program in (*SHAPES, *POOLED[:60]):
            self.assertIs(fine(program, list(OWN), [3, 0, 1], plugs=[]), True)
            self.assertIs(fine(program, [], [3, 0, 1], plugs=[]), True)

    def test_plugged_ones_may_be(self):
        self.assertIs(fine(SEVEN, ["idle"], [], plugs=PLUGGED), True)
        self.assertIs(fine(SEVEN, ["mute"], [], plugs=PLUGGED), False)
        self.assertIs(fine(STOP, ["mute"], [], plugs=PLUGGED), True)

    def test_inputs_count(self):
        self.assertIs(fine(SEVEN, ["ready"], SEVEN_IN, plugs=PLUGGED), True)
        self.assertIs(fine(SEVEN, ["ready"], [6], plugs=PLUGGED), False)
        self.assertIs(fine(SEVEN, ["ready"], [], plugs=PLUGGED), False)

    def test_one_may_mend_the_other(self):
        self.assertIs(fine(SEVEN, ["ready", "steady"], [], plugs=PLUGGED), False)
        self.assertIs(fine(SEVEN, ["ready", "steady", "mend"], [], plugs=PLUGGED), True)

    def test_by_as_good(self):
        for number, program in enumerate(POOLED):
            plug = PLUGS[number % 60]
            names = ["fold", plug[0], "dead"]
            told = fine(program, names, [1, 2], plugs=[plug])
            self.assertIs(told, as_good(slow_passes.after(program, names, [plug]), program, [1, 2]))


class GuiltyTest(unittest.TestCase):
    def check(self, names, expected, inputs=(), program=SEVEN):
        self.assertEqual(guilty(program, names, list(inputs), plugs=PLUGGED), expected)

    def test_none(self):
        self.check([], None)
        self.check(["fold", "dead", "idle"], None)
        self.check(["ready", "steady", "mend"], None)

    def test_one_name(self):
        self.check(["mute"], (0, ()))

    def test_two_names(self):
        self.check(["mute", "fold"], (0, ((1, False),)))
        self.check(["fold", "mute"], (1, ((1, True),)))

    def test_beginning_middle_and_end(self):
        own = ["fold"] * 7
        self.check(["mute", *own], (0, ((4, False), (2, False), (1, False))))
        self.check([*own[:3], "mute", *own[3:]], (3, ((4, False), (2, True), (3, True))))
        self.check([*own[:4], "mute", *own[4:]], (4, ((4, True), (6, False), (5, False))))
        self.check([*own, "mute"], (7, ((4, True), (6, True), (7, True))))

    def test_odd_numbers_of_names(self):
        self.check(["idle", "idle", "mute"], (2, ((1, True), (2, True))))
        self.check(["idle", "mute", "idle"], (1, ((1, True), (2, False))))
        self.check(["mute", "idle", "idle"], (0, ((1, False),)))
        self.check(["idle"] * 4 + ["mute"], (4, ((2, True), (3, True), (4, True))))

    def test_forty_names(self):
        for at in range(40):
            names = ["skip"] * at + ["mute"] + ["skip"] * (39 - at)
            place, looks = guilty(SEVEN, names, [], plugs=PLUGGED)
            self.assertEqual(place, at)
            self.assertLessEqual(len(looks), 6)

    def test_guilty_together(self):
        # With 7 as its input the first is fine by itself; the next one is guilty behind it alone.
        self.check(["idle", "ready", "fold", "steady"], (3, ((2, True), (3, True))), SEVEN_IN)
        self.check(["idle", "ready", "steady", "fold"], (2, ((2, True), (3, False))), SEVEN_IN)

    def test_looks_at_what_is_mended_between(self):
        # Two are guilty; that is told to which the looks lead.
        self.check(["ready", "steady", "mend", "mute"], (0, ((2, False), (1, False))))
        self.check(["ready", "steady", "mend", "idle", "mute", "idle"], (4, ((3, True), (4, True), (5, False))))

    def test_tuples(self):
        told = guilty(SEVEN, ["fold", "mute", "fold"], [], plugs=PLUGGED)
        self.assertIs(type(told), tuple)
        self.assertIs(type(told[1]), tuple)
        self.assertTrue(all(type(look) is tuple and type(look[0]) is int and type(look[1]) is bool for look in told[1]))

    def test_many_rows(self):
        found = 0
        for number, program in enumerate(LOUD):
            plugs, names = made_names(number)
            told = guilty(program, names, LOUD_INPUTS, plugs=plugs)
            self.assertEqual(told, slow_guilty(program, names, plugs))
            if told is not None:
                found += 1
                place, looks = told
                self.assertTrue(fine(program, names[:place], LOUD_INPUTS, plugs=plugs))
                self.assertFalse(fine(program, names[:place + 1], LOUD_INPUTS, plugs=plugs))
                self.assertLessEqual(len(looks), (len(names) - 1).bit_length())
        self.assertGreater(found, 30)


def slow_fine(program, names, plugs):
    """Whether all is fine, by other passes."""
    return as_good(slow_passes.after(program, names, plugs), program, LOUD_INPUTS)


def slow_guilty(program, names, plugs, low=0, high=None, looks=()):
    """What guilty must tell, halving by halving."""
    if high is None:
        if slow_fine(program, names, plugs):
            return None
        high = len(names)
    if high - low <= 1:
        return low, looks
    middle = (low + high) // 2
    told = slow_fine(program, names[:middle], plugs)
    bounds = (middle, high) if told else (low, middle)
    return slow_guilty(program, names, plugs, *bounds, (*looks, (middle, told)))


def slow_needed(program, names, plugs):
    """What needed must tell, one less by one less."""
    if slow_fine(program, names, plugs):
        return None
    for at in range(len(names)):
        told = slow_needed(program, names[:at] + names[at + 1:], plugs)
        if told is not None:
            return told
    return names


class NeededTest(unittest.TestCase):
    def check(self, names, expected, inputs=()):
        self.assertEqual(needed(SEVEN, names, list(inputs), plugs=PLUGGED), expected)

    def test_none(self):
        self.check([], None)
        self.check(["fold", "dead", "idle"], None)
        self.check(["ready", "steady", "mend"], None)

    def test_one(self):
        self.check(["mute"], ["mute"])
        self.check(["mute", "fold", "idle"], ["mute"])
        self.check(["fold", "mute", "idle"], ["mute"])
        self.check(["fold", "idle", "dead", "mute"], ["mute"])
        self.check(["mute", "mute", "mute"], ["mute"])

    def test_from_the_first_one_on(self):
        # Either one is enough; the first that can be left out is.
        self.check(["mute", "fold", "ready"], ["ready"])
        self.check(["ready", "fold", "mute"], ["mute"])

    def test_together_only(self):
        self.check(["idle", "ready", "fold", "steady", "dead"], ["ready", "steady"], SEVEN_IN)
        self.check(["ready", "ready", "steady", "steady"], ["ready", "steady"], SEVEN_IN)

    def test_again_from_the_first(self):
        # Without "five" all is fine as long as "ready" is there; once that is left out, "five" can be, too.
        plugs = [("five", (((("set", "A", 7),), (("set", "A", 5),)),), ()), OPEN,
                 ("three", (((("set", "A", 7),), (("set", "A", 3),)),), ())]
        self.assertIs(fine(SEVEN, ["ready", "three"], SEVEN_IN, plugs=plugs), True)
        self.assertEqual(needed(SEVEN, ["five", "ready", "three"], SEVEN_IN, plugs=plugs), ["three"])

    def test_forty(self):
        self.check(["fold"] * 20 + ["mute"] + ["dead"] * 19, ["mute"])

    def test_a_new_list(self):
        names = ["mute"]
        told = needed(SEVEN, names, [], plugs=PLUGGED)
        told.append("fold")
        self.assertEqual(names, ["mute"])
        self.assertEqual(needed(SEVEN, names, [], plugs=PLUGGED), ["mute"])

    def test_many_rows(self):
        lengths = set()
        for number, program in enumerate(LOUD):
            plugs, names = made_names(number)
            told = needed(program, names, LOUD_INPUTS, plugs=plugs)
            self.assertEqual(told, slow_needed(program, names, plugs), (program, names, plugs))
            if told is not None:
                lengths.add(len(told))
                self.assertFalse(fine(program, told, LOUD_INPUTS, plugs=plugs))
                for at in range(len(told)):
                    self.assertTrue(fine(program, told[:at] + told[at + 1:], LOUD_INPUTS, plugs=plugs))
        self.assertLessEqual({1, 2}, lengths)


class ManyProgramsTest(unittest.TestCase):
    def test_what_is_handed_in_is_not_changed(self):
        names, inputs, plugs = ["fold", "mute"], [1, 2], [MUTE]
        before = copy.deepcopy((names, inputs, plugs))
        for call in (fine, guilty, needed):
            call(ALL_WORDS, names, inputs, plugs=plugs)
            call(ALL_WORDS, names, inputs, plugs=plugs)
            self.assertEqual((names, inputs, plugs), before)

    def test_the_same_again(self):
        for call in (fine, guilty, needed):
            told = call(ALL_WORDS, ["fold", "mute"], [1], plugs=PLUGGED)
            call(SEVEN, ["idle"], [1], plugs=PLUGGED)
            self.assertEqual(call(ALL_WORDS, ["fold", "mute"], [1], plugs=PLUGGED), told)


if __name__ == "__main__":
    unittest.main()
