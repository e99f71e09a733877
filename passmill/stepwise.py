"""Passes that turn steps: fold, spread, reuse and dead, each made of the fact that it needs."""

from passmill.known import SUM_WORDS, const_for, known_by_name, turn_consts, turn_copies, turn_sums
from passmill.programs import FORMS, rows_of
from passmill.reading import go_back


def folded(program, consts):
    """The program in which copies and sums that write a known value are set."""
    return with_known(program, consts, turn_consts, folded_row)


def spread_out(program, copies):
    """The program that reads, instead of copies, that of which they are copies."""
    return with_known(program, copies, turn_copies, row_read_through)


def reused(program, sums):
    """The program in which sums that stand in a place already are copies of this."""
    return with_known(program, sums, turn_sums, reused_row)


def with_known(program, told, turn, change):
    """The program with its steps and ends changed by what is known ahead of each, where that is told."""
    starts = known_by_name(told)
    return tuple(
        changed_block(block, starts[block[0]], turn, change) if block[0] in starts else block for block in program
    )


def changed_block(block, start, turn, change):
    """The block with its steps and its end changed by what is known ahead of each."""
    known = {key: start[key] for key in start}
    changed = []
    for row in rows_of(block):
        changed.append(change(known, row))
        # What is known goes on by the step as it was, not by what came of it.
        turn(known, row)
    return block[0], tuple(changed[:-1]), changed[-1]


def folded_row(known, row):
    """A copy or sum of a known value as set, all else as it is."""
    if row[0] != "copy" and row[0] not in SUM_WORDS:
        return row
    worth = const_for(known, row)
    return row if worth is None else ("set", row[1], worth)


def row_read_through(known, row):
    """A step or an end that reads, instead of copies, that of which they are copies."""
    parts = [known.get(part, part) if kind == "read" else part for part, kind in zip(row[1:], FORMS[row[0]])]
    return (row[0], *parts)


def reused_row(known, row):
    """A sum that stands in a place already as a copy of this, all else as it is."""
    if row[0] not in SUM_WORDS or row[:1] + row[2:] not in known:
        return row
    return "copy", row[1], known[row[:1] + row[2:]]


def without_dead(program, live):
    """The program without steps that write what is not read any more."""
    behind = {name: places for name, start, places in live}
    return tuple((name, live_steps(steps, end, behind[name]), end) for name, steps, end in program)


def live_steps(steps, end, behind):
    """The steps that are not dead, if these places may still be read behind the end."""
    live = {place: True for place in behind}
    go_back(live, end)
    left = []
    for step in reversed(steps):
        # What is left out reads nothing any more, so only other steps are gone back through.
        if not is_dead(live, step):
            go_back(live, step)
            left.append(step)
    return tuple(reversed(left))


def is_dead(live, step):
    """Whether a step does nothing, if these places may still be read behind it."""
    if step[0] in ("get", "put"):
        return False
    return step[1] not in live or step[0] == "copy" and step[1] == step[2]
