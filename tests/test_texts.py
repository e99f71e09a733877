"""Programs and plugged passes as texts."""

import copy
import itertools
import unittest

from made import MADE, PLUGS, POOLED, SHAPES
from passmill.errors import NoPlug, NoProgram, NoText
from passmill.plugs import is_plug
from passmill.programs import is_program
from passmill.texts import plug_text, program_text, read_plug, read_program
from samples import ALL_WORDS, NOWHERE_RIGHT, ROUND, STOP, one_block, wrong_programs
from test_plugs import FORMS, PLUG

ALL_WORDS_TEXT = """\
a:
 get x
 set one 1
 copy y x
 if x b c
b:
 add s x y
 sub d x one
 mul m s d
 less l d x
 same e x y
 put m
 put l
 put e
 go c
c:
 stop
"""

PLUG_TEXT = """\
trick edges doms
set A N; copy B A > set A N; set B N
add A B C; sub D A C; put D > put B
mul A B B; less C A A > mul A B B; set C 0
same A B B > set A 1
get A; get A > get A
set A 9972 >\x20
"""

# What is put in, or takes the place of a sign, at each place of a text.
SIGNS = (" ", "\n", ":", ";", ">", "0", "1", "a", "A", "N", "z", "\t", "\r", "\u00e4", "\u00b2", "\u0661", "-", "+",
         "_", "\x00", "\x0b", "\x0c", "\x1c", "\x85", "\u2028", "\u00a0", "  ", " \n", "\n ", "\n\n", "; ", " > ", "00")


def slips(text):
    """The text with each sign left out, doubled, exchanged with the next one, replaced, or another put in ahead."""
    for at in range(len(text) + 1):
        yield text[:at] + text[at + 1:]
        yield text[:at] + text[at:at + 1] + text[at:]
        yield text[:at] + text[at + 1:at + 2] + text[at:at + 1] + text[at + 2:]
        yield text[:at]
        for sign in SIGNS:
            yield text[:at] + sign + text[at:]
            yield text[:at] + sign + text[at + 1:]


def line_slips(text):
    """The text with a line left out, doubled, or exchanged with another."""
    lines = text.split("\n")
    for at, line in enumerate(lines):
        yield "\n".join(lines[:at] + lines[at + 1:])
        yield "\n".join(lines[:at] + [line] + lines[at:])
        for other in range(at):
            changed = list(lines)
            changed[at], changed[other] = changed[other], changed[at]
            yield "\n".join(changed)
        yield "\n".join(lines[:at] + [""] + lines[at:])
        yield "\n".join(lines[:at] + [" "] + lines[at:])
        yield "\n".join(lines[:at] + [line.strip()] + lines[at + 1:])
        yield "\n".join(lines[:at] + [line + " "] + lines[at + 1:])
        yield "\n".join(lines[:at] + [" " + line] + lines[at + 1:])


NO_TEXTS = (
    *(thing for thing in NOWHERE_RIGHT if not isinstance(thing, str)), 0, 1, (), [ALL_WORDS_TEXT],
    (ALL_WORDS_TEXT,), {},
    b"a:\n stop\n", 1.5, STOP, PLUG,
)


class ProgramTextTest(unittest.TestCase):
    def test_each_word(self):
        self.assertEqual(program_text(ALL_WORDS), ALL_WORDS_TEXT)
        self.assertEqual(read_program(ALL_WORDS_TEXT), ALL_WORDS)

    def test_small_ones(self):
        self.assertEqual(program_text(STOP), "a:\n stop\n")
        self.assertEqual(program_text(ROUND), "a:\n go a\n")
        self.assertEqual(program_text((("z", (), ("if", "x", "b", "z")), ("b", (), ("stop",)))),
                         "z:\n if x b z\nb:\n stop\n")

    def test_numbers(self):
        for value, told in ((0, "0"), (1, "1"), (10, "10"), (100, "100"), (9972, "9972")):
            program = one_block([("set", "x", value)])
            text = f"a:\n set x {told}\n stop\n"
            self.assertEqual(program_text(program), text)
            self.assertEqual(read_program(text), program)
            self.assertIs(type(read_program(text)[0][1][0][2]), int)

    def test_no_numbers(self):
        for told in ("", "00", "01", "0000", "09972", "9973", "10000", "99999", "-1", "+1", " 1", "1 ", "1_0",
                     "1.0", "x",
                     "0x1", "\u0661", "\u00b2", "1" * 5000, "0" * 5000 + "1", "True", "None", "1\t", "one"):
            with self.assertRaises(NoText, msg=told[:20]):
                read_program(f"a:\n set x {told}\n stop\n")

    def test_names_that_are_words(self):
        program = (("set", (("copy", "get", "put"), ("set", "set", 1)), ("if", "if", "go", "set")),
                   ("go", (("get", "add"),), ("go", "go")))
        text = "set:\n copy get put\n set set 1\n if if go set\ngo:\n get add\n go go\n"
        self.assertEqual(program_text(program), text)
        self.assertEqual(read_program(text), program)

    def test_bounds(self):
        steps = " put x\n" * 16
        self.assertEqual(len(read_program(f"a:\n{steps} stop\n")[0][1]), 16)
        blocks = "".join(f"{name}:\n stop\n" for name in "abcdefghijkl")
        self.assertEqual(len(read_program(blocks)), 12)
        for text in (f"a:\n{steps} put x\n stop\n", f"{blocks}m:\n stop\n", "abcd:\n stop\n",
        "a:\n put abcd\n stop\n"):
            with self.assertRaises(NoText, msg=text):
                read_program(text)

    def test_reads_back(self):
        for program in (*SHAPES, *MADE, *POOLED):
            self.assertEqual(read_program(program_text(program)), program)

    def test_no_program(self):
        for thing in (*wrong_programs(), (), *NOWHERE_RIGHT):
            before = copy.deepcopy(thing)
            with self.assertRaises(NoProgram, msg=thing):
                program_text(thing)
            self.assertEqual(thing, before)

    def test_no_text(self):
        for text in (
            *NO_TEXTS, "", "\n", "a", "a:", "a:\n", "a:\n stop", " stop\n", "a:\nstop\n", "a:\n  stop\n",
            "a:\n stop\n\n", "\na:\n stop\n", "a:\n\n stop\n", "a :\n stop\n", "a: \n stop\n", " a:\n stop\n",
            "a:\n stop \n", "a\n stop\n", "a::\n stop\n", ":\n stop\n", "A:\n stop\n", "a:\n stop\r\n",
            "a:\r\n stop\r\n", "a:\n stop\na:\n stop\n", "a:\n go b\n", "a:\n put x\n", "a:\n stop\n stop\n",
            "a:\n stop\n put x\n", "a:\n put x y\n stop\n", "a:\n put\n stop\n", "a:\n set x\n stop\n",
            "a:\n set 1 x\n stop\n", "a:\n nop\n stop\n", "a:\n if x a\n", "a:\n PUT x\n stop\n",
            "a:\n put  x\n stop\n", "a:\n\tstop\n", "a: stop\n", "a:\n put 1\n stop\n",
            PLUG_TEXT,
            "a:\n stop\nb:\n", "a:\nb:\n stop\n", "a:\n stop\x0b", "a:\x0b stop\n", "1:\n stop\n", "a:\n stop \n",
        ):
            with self.assertRaises(NoText, msg=text):
                read_program(text)

    def check_slips(self, text):
        for changed in (*slips(text), *line_slips(text)):
            try:
                program = read_program(changed)
            except NoText:
                continue
            self.assertTrue(is_program(program))
            self.assertEqual(program_text(program), changed)

    def test_nothing_else_is_read(self):
        self.check_slips(ALL_WORDS_TEXT)
        self.check_slips("a:\n set x 10\n stop\n")
        for program in SHAPES[3:6]:
            self.check_slips(program_text(program))

    def test_slips_that_are_refused(self):
        for at, sign in enumerate(ALL_WORDS_TEXT):
            if sign in " \n:":
                for many in (0, 2):
                    changed = ALL_WORDS_TEXT[:at] + sign * many + ALL_WORDS_TEXT[at + 1:]
                    with self.assertRaises(NoText, msg=changed):
                        read_program(changed)

    def test_written_by_hand(self):
        for number, program in enumerate(POOLED[:60]):
            lines = []
            for name, steps, end in program:
                lines.append(name + ":\n")
                lines.extend(" " + " ".join(map(str, row)) + "\n" for row in (*steps, end))
            self.assertEqual(program_text(program), "".join(lines))


class PlugTextTest(unittest.TestCase):
    def test_each_kind(self):
        self.assertEqual(plug_text(PLUG), PLUG_TEXT)
        self.assertEqual(read_plug(PLUG_TEXT), PLUG)

    def test_keeps_nothing(self):
        plug = ("p", (((("get", "A"),), ()),), ())
        self.assertEqual(plug_text(plug), "p\nget A > \n")
        self.assertEqual(read_plug("p\nget A > \n"), plug)

    def test_several_forms(self):
        plug = ("abcdef", (((("put", "A"), ("put", "B"), ("put", "A")), (("put", "B"), ("put", "A"), ("put", "B"))),),
                ("uses",))
        text = "abcdef uses\nput A; put B; put A > put B; put A; put B\n"
        self.assertEqual(plug_text(plug), text)
        self.assertEqual(read_plug(text), plug)

    def test_each_form(self):
        for form in FORMS:
            plug = ("p", (((form,), (form,)), ((form, form), ())), ("edges", "consts"))
            told = " ".join(map(str, form))
            self.assertEqual(plug_text(plug), f"p edges consts\n{told} > {told}\n{told}; {told} > \n")
            self.assertEqual(read_plug(plug_text(plug)), plug)

    def test_the_order_of_what_it_keeps(self):
        for keeps in (("uses", "edges"), ("edges", "uses")):
            plug = ("p", PLUG[1], keeps)
            self.assertEqual(read_plug(plug_text(plug)), plug)

    def test_reads_back(self):
        for plug in PLUGS:
            self.assertEqual(read_plug(plug_text(plug)), plug)

    def test_no_plug(self):
        for thing in (*NOWHERE_RIGHT, (), "p", list(PLUG), (PLUG,), ("p", (), ()), ("p", [*PLUG[1]], ()),
                      ("P", PLUG[1], ()), ("p", PLUG[1], ("edge",)), ("p", PLUG[1], ["edges"]), {}, 0, PLUG_TEXT,
                      STOP):
            before = copy.deepcopy(thing)
            with self.assertRaises(NoPlug, msg=thing):
                plug_text(thing)
            self.assertEqual(thing, before)

    def test_no_text(self):
        for text in (
            *NO_TEXTS, "", "\n", "p", "p\n", "p\nget A > ", "p\nget A >\n", "p\nget A\n", "p\nget A > \n\n",
            "\np\nget A > \n", "p \nget A > \n", " p\nget A > \n", "p  edges\nget A > \n",
            "p edges edges\nget A > \n", "p edge\nget A > \n", "P\nget A > \n", "abcdefg\nget A > \n",
            "p\n\nget A > \n", "p\n get A > \n", "p\nget A  > \n", "p\nget A >  \n", "p\nget  A > \n",
            "p\n > get A\n", "p\n > \n", "p\nget A > get B\n", "p\nget A > get A > get A\n", "p\nget A;get A > \n",
            "p\nget A ; get A > \n", "p\nget A;  get A > \n", "p\nget A; > \n", "p\nget A;  > \n",
            "p\nget A; get A; get A; get A > \n", "p\nget A > get A; get A\n", "p\nget A > get A;\n",
            "p\nget A > get A; \n", "p\nget A > get A \n", "p\nget a > \n", "p\nget E > \n", "p\nset A 01 > \n",
            "p\nset A 9973 > \n", "p\nset A n > \n", "p\nset A > \n", "p\nset A N N > \n", "p\nget N > \n",
            "p\nget A > \r\n", "p\r\nget A > \n", "p\n" + "get A > \n" * 7, "p\nget A >\n", "p\nget A> \n",
            ALL_WORDS_TEXT, "p get\nget A > \n", "p\nstop > \n",
        ):
            with self.assertRaises(NoText, msg=text):
                read_plug(text)

    def test_bounds(self):
        for many in range(1, 7):
            self.assertEqual(len(read_plug("p\n" + "get A > \n" * many)[1]), many)

    def test_nothing_else_is_read(self):
        for text in (PLUG_TEXT, "p\nget A > \n", "q uses\nset A 10; put B > put B\n"):
            for changed in (*slips(text), *line_slips(text)):
                try:
                    plug = read_plug(changed)
                except NoText:
                    continue
                self.assertTrue(is_plug(plug))
                self.assertEqual(plug_text(plug), changed)

    def test_slips_that_are_refused(self):
        for at, sign in enumerate(PLUG_TEXT):
            if sign in " \n;>":
                for many in (0, 2):
                    changed = PLUG_TEXT[:at] + sign * many + PLUG_TEXT[at + 1:]
                    with self.assertRaises(NoText, msg=changed):
                        read_plug(changed)


class ManyTextsTest(unittest.TestCase):
    def test_all_short_texts(self):
        # Whatever is put together of such parts: what is read is what writing tells of it.
        lines = ("a:\n", "b:\n", " stop\n", " put x\n", " go a\n", " set x 1\n")
        parts = ("p\n", "p uses\n", "get A", "put A", " > ", "; ", "\n", " > \n")
        found = []
        for words, length in itertools.product((lines, parts), range(5)):
            for text in map("".join, itertools.product(words, repeat=length)):
                for read, write in ((read_program, program_text), (read_plug, plug_text)):
                    try:
                        thing = read(text)
                    except NoText:
                        continue
                    self.assertEqual(write(thing), text)
                    found.append(text)
        self.assertGreater(len(found), 30)
        for text in ("a:\n stop\n", "b:\n go a\na:\n stop\n", "p\nget A > \n", "p uses\nput A > \n"):
            self.assertIn(text, found)
        self.assertNotIn("p uses\nput A > put A", found)

    def test_the_same_again(self):
        self.assertEqual(read_program(ALL_WORDS_TEXT), read_program(ALL_WORDS_TEXT))
        self.assertEqual(program_text(ALL_WORDS), program_text(ALL_WORDS))
        self.assertEqual(read_plug(PLUG_TEXT), read_plug(PLUG_TEXT))
        self.assertEqual(plug_text(PLUG), plug_text(PLUG))


if __name__ == "__main__":
    unittest.main()
