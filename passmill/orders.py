"""Orders of passes that are always there: the best one, whether two commute, and where they come to rest."""

from passmill.errors import NoNumber, NoPasses
from passmill.kinds import is_whole
from passmill.passes import is_own_pass, pass_made, passes_made
from passmill.programs import check_program, size_of

MOST_UNLIKE = 4
LONGEST_ROW = 4
MOST_ROUNDS = 40


def best_row(program, names, many):
    """The least size behind a row of at most so many passes, and the first of the shortest such rows."""
    check_program(program)
    check_unlike(names)
    if not is_whole(many, 0, LONGEST_ROW):
        raise NoNumber("a row has at most 0 to 4 passes")
    least = size_of(program)
    best = []
    tried = [([], program)]
    for length in range(many):
        # Rows of one length come by Python's order, so only a smaller size may replace what is best.
        tried = [(row + [name], pass_made(came, name, {}, {})) for row, came in tried for name in sorted(names)]
        for row, came in tried:
            if size_of(came) < least:
                least = size_of(came)
                best = row
    return least, best


def commute(program, name, other):
    """Whether two passes come to the same in both orders."""
    check_program(program)
    if not is_own_pass(name) or not is_own_pass(other):
        raise NoPasses("each name is that of a pass that is always there")
    return passes_made(program, [name, other], {}) == passes_made(program, [other, name], {})


def settled(program, names):
    """The program behind these passes, again and again, until all of them together turn nothing."""
    check_program(program)
    check_unlike(names)
    for rounds in range(MOST_ROUNDS):
        came = passes_made(program, names, {})
        if came == program:
            return program
        program = came
    return program


def check_unlike(thing):
    """Refuse what are no names of a few unlike passes that are always there."""
    if not isinstance(thing, list) or not 1 <= len(thing) <= MOST_UNLIKE:
        raise NoPasses("names are a list of 1 to 4 names")
    if not all(is_own_pass(name) for name in thing) or len(set(thing)) != len(thing):
        raise NoPasses("these are unlike names of passes that are always there")
