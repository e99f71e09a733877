"""Passes that turn blocks and ends: bend, prune, join and skip, each made of the fact that it needs."""

from passmill.known import known_behind, known_by_name, turn_consts
from passmill.programs import MOST_STEPS
from passmill.ways import edges_of


def bent(program, consts):
    """The program whose ends ask nothing of which it is known where it leads."""
    starts = known_by_name(consts)
    return tuple((name, steps, bent_end(steps, end, starts.get(name))) for name, steps, end in program)


def bent_end(steps, end, start):
    """The end of a block, if this is known at its beginning, or None of a block that is not reached."""
    if end[0] != "if":
        return end
    word, place, block, other = end
    if block == other:
        return "go", block
    if start is None:
        return end
    asked = known_behind(steps, start, turn_consts).get(place, 0)
    if asked is None:
        return end
    return "go", other if asked == 0 else block


def pruned(program, reach):
    """The program without blocks that are not reached."""
    return tuple(block for block in program if block[0] in reach)


def joined(program, edges):
    """The program in which blocks that can only come one behind the other are one."""
    pair = pair_to_join(program, edges)
    while pair is not None:
        program = with_pair_joined(program, pair)
        pair = pair_to_join(program, edges_of(program))
    return program


def pair_to_join(program, edges):
    """The names of the first block that can be joined with the one behind it, and of that, or None."""
    sources_by_name = {name: sources for name, targets, sources in edges}
    many_by_name = {name: len(steps) for name, steps, end in program}
    first = program[0][0]
    for name, steps, end in program:
        if end[0] == "go" and end[1] not in (name, first) and sources_by_name[end[1]] == (name,):
            if len(steps) + many_by_name[end[1]] <= MOST_STEPS:
                return name, end[1]
    return None


def with_pair_joined(program, pair):
    """The program in which these two blocks are one, with the name and at the place of the first of them."""
    front, back = pair
    blocks = {block[0]: block for block in program}
    both = (front, blocks[front][1] + blocks[back][1], blocks[back][2])
    return tuple(both if block[0] == front else block for block in program if block[0] != back)


def skipped(program):
    """The program whose ends lead past blocks that only go on."""
    onward = {name: end[1] for name, steps, end in program if not steps and end[0] == "go"}
    return tuple((name, steps, end_past(end, onward)) for name, steps, end in program)


def end_past(end, onward):
    """The end that leads past blocks which only go on to another."""
    if end[0] == "go":
        return "go", block_past(end[1], onward)
    if end[0] == "if":
        return "if", end[1], block_past(end[2], onward), block_past(end[3], onward)
    return end


def block_past(name, onward):
    """The first block, from this one on, that does not only go on, or that comes again, where they go round."""
    passed = []
    while name in onward and name not in passed:
        passed.append(name)
        name = onward[name]
    return name
