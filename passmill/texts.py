"""Programs and plugged passes as texts: written, and read."""

from passmill.errors import NoText
from passmill.plugs import check_plug, is_plug
from passmill.programs import check_program, is_program, rows_of

FIGURES = "0123456789"
LONGEST_NUMBER = 4


def program_text(program):
    """The writing of a program."""
    check_program(program)
    return text_of_lines([line for block in program for line in block_lines(block)])


def block_lines(block):
    """The lines of a block: its name, its steps and its end."""
    return [f"{block[0]}:"] + [f" {row_text(row)}" for row in rows_of(block)]


def row_text(row):
    """A step, an end or a form as words."""
    return " ".join([str(part) for part in row])


def text_of_lines(lines):
    """These lines, each ended by a line feed."""
    return "".join([line + "\n" for line in lines])


def read_program(text):
    """The program of which a text is the writing."""
    program = tuple(block_in(lines) for lines in lines_by_block(lines_in(text)))
    # Reading is lenient: what it takes too easily is written otherwise.
    if not is_program(program) or program_text(program) != text:
        raise NoText("this is not the writing of a program")
    return program


def lines_in(text):
    """The lines of a text, each without its line feed."""
    if not isinstance(text, str):
        raise NoText("this is no text")
    return text.split("\n")[:-1]


def lines_by_block(lines):
    """Lists of lines, each beginning with one that has no blank ahead."""
    blocks = []
    for line in lines:
        if line.startswith(" ") and blocks:
            blocks[-1].append(line)
        else:
            blocks.append([line])
    return blocks


def block_in(lines):
    """What may be the block with these lines."""
    rows = [row_in(line[1:]) for line in lines[1:]]
    end = rows[-1] if rows else ()
    return lines[0][:-1], tuple(rows[:-1]), end


def row_in(text):
    """What may be the step, end or form with these words."""
    return tuple(part_in(word) for word in text.split(" "))


def part_in(word):
    """A word, as a number, if it is one that is not too long."""
    if 1 <= len(word) <= LONGEST_NUMBER and all(sign in FIGURES for sign in word):
        return int(word)
    return word


def plug_text(plug):
    """The writing of a plugged pass."""
    check_plug(plug)
    name, rules, keeps = plug
    return text_of_lines([row_text((name, *keeps))] + [rule_text(rule) for rule in rules])


def rule_text(rule):
    """A rule as its old forms and its new ones."""
    old, new = rule
    return f"{forms_text(old)} > {forms_text(new)}"


def forms_text(forms):
    """Forms one behind the other."""
    return "; ".join([row_text(form) for form in forms])


def read_plug(text):
    """The plugged pass of which a text is the writing."""
    lines = lines_in(text)
    if not lines:
        raise NoText("this is no line")
    name, *keeps = lines[0].split(" ")
    plug = (name, tuple(rule_in(line) for line in lines[1:]), tuple(keeps))
    if not is_plug(plug) or plug_text(plug) != text:
        raise NoText("this is not the writing of a plugged pass")
    return plug


def rule_in(line):
    """What may be the rule of a line."""
    old, mark, new = line.partition(" > ")
    return forms_in(old), forms_in(new)


def forms_in(text):
    """What may be the forms of a text."""
    return tuple(row_in(form) for form in text.split("; ")) if text else ()
