"""Facts of the ways from block to block: "edges", "reach" and "doms"."""

from passmill.programs import parts_of


def edges_of(program):
    """For each block its name, the blocks to which its end leads, and those whose ends lead to it."""
    targets = {name: tuple(sorted(set(parts_of(end, "block")))) for name, steps, end in program}
    names = sorted(targets)
    return tuple((name, targets[name], tuple(other for other in names if name in targets[other])) for name in names)


def targets_by_name(edges):
    """For each name of a block those to which its end leads."""
    return {name: targets for name, targets, sources in edges}


def reach_of(program, edges):
    """All blocks to which the first one leads."""
    return tuple(sorted(names_reached(program, edges, None)))


def doms_of(program, edges, reach):
    """For each block of reach its name, and those that are on every way from the first one to it."""
    without = {barred: names_reached(program, edges, barred) for barred in reach}
    return tuple((name, tuple(other for other in reach if name not in without[other])) for name in reach)


def names_reached(program, edges, barred):
    """All blocks to which the first one leads on ways without the barred one, none, if that is the first."""
    targets = targets_by_name(edges)
    first = program[0][0]
    found = []
    left = [first]
    while left:
        name = left.pop()
        if name != barred and name not in found:
            found.append(name)
            left.extend(targets[name])
    return found
