"""Programs: what is one, which places it names, how large it is."""

from passmill.errors import NoProgram
from passmill.kinds import is_name, is_value

MOST_BLOCKS = 12
MOST_STEPS = 16

STEP_WORDS = ("set", "copy", "add", "sub", "mul", "less", "same", "get", "put")
END_WORDS = ("go", "if", "stop")

# What stands behind the word of each step and each end: places are read or written.
FORMS = {
    "set": ("written", "value"),
    "copy": ("written", "read"),
    "add": ("written", "read", "read"),
    "sub": ("written", "read", "read"),
    "mul": ("written", "read", "read"),
    "less": ("written", "read", "read"),
    "same": ("written", "read", "read"),
    "get": ("written",),
    "put": ("read",),
    "go": ("block",),
    "if": ("read", "block", "block"),
    "stop": (),
}


def is_program(thing):
    """Whether a thing, whatever it may be, is a program."""
    if not isinstance(thing, tuple) or not 1 <= len(thing) <= MOST_BLOCKS:
        return False
    if not all(is_block(block) for block in thing):
        return False
    names = [name for name, steps, end in thing]
    if len(set(names)) != len(names):
        return False
    return all(target in names for name, steps, end in thing for target in parts_of(end, "block"))


def is_block(thing):
    """Whether a thing is a block, wherever its end may lead."""
    if not isinstance(thing, tuple) or len(thing) != 3:
        return False
    name, steps, end = thing
    if not is_name(name) or not has_form(end, END_WORDS, is_part):
        return False
    if not isinstance(steps, tuple) or len(steps) > MOST_STEPS:
        return False
    return all(has_form(step, STEP_WORDS, is_part) for step in steps)


def has_form(thing, words, fits):
    """Whether a thing begins with one of these words, and its parts fit the kinds that the word asks for."""
    if not isinstance(thing, tuple) or not thing or thing[0] not in words:
        return False
    asked = FORMS[thing[0]]
    if len(thing) != 1 + len(asked):
        return False
    return all(fits(part, kind) for part, kind in zip(thing[1:], asked))


def is_part(part, kind):
    """Whether a part of a step or an end may stand where this kind is asked for."""
    if kind == "value":
        return is_value(part)
    return is_name(part)


def parts_of(row, kind):
    """All parts of one kind that a step or an end has, in order."""
    return [part for part, known in zip(row[1:], FORMS[row[0]]) if known == kind]


def places_in(row):
    """All places that a step or an end writes or reads."""
    return parts_of(row, "written") + parts_of(row, "read")


def rows_of(block):
    """All steps of a block, and its end behind them."""
    name, steps, end = block
    return (*steps, end)


def check_program(thing):
    """Refuse what is no program."""
    if not is_program(thing):
        raise NoProgram("this is no program")


def places_of(program):
    """All places that a program names, rising."""
    check_program(program)
    return sorted({place for block in program for row in rows_of(block) for place in places_in(row)})


def size_of(program):
    """How many steps a program has, each end being one, too."""
    check_program(program)
    return sum(len(rows_of(block)) for block in program)
