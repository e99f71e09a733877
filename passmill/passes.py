"""Passes by their names: what each needs, what it keeps, and what it makes of a program.

Where plugged passes are asked for, they are a dict of them by their names.
"""

from passmill.blockwise import bent, joined, pruned, skipped
from passmill.facts import fact
from passmill.rules import ruled
from passmill.stepwise import folded, reused, spread_out, without_dead

NEEDS = {
    "fold": "consts",
    "bend": "consts",
    "spread": "copies",
    "reuse": "sums",
    "dead": "live",
    "prune": "reach",
    "join": "edges",
    "skip": "edges",
}

KEEPS = {
    "fold": ("consts", "doms", "edges", "reach"),
    "bend": (),
    "spread": ("consts", "doms", "edges", "reach"),
    "reuse": ("doms", "edges", "reach"),
    "dead": ("doms", "edges", "reach"),
    "prune": ("doms", "reach"),
    "join": ("uses",),
    "skip": ("uses",),
}


def is_own_pass(thing):
    """Whether a thing, whatever it may be, is the name of a pass that is always there."""
    return isinstance(thing, str) and thing in NEEDS


def is_pass(thing, plugged):
    """Whether a thing, whatever it may be, is the name of a pass."""
    return is_own_pass(thing) or isinstance(thing, str) and thing in plugged


def needs_of(name):
    """The names of the facts that a pass needs; plugged passes need none."""
    return (NEEDS[name],) if name in NEEDS else ()


def keeps_of(name, plugged):
    """The names of the facts that a pass keeps, or says that it keeps."""
    return KEEPS[name] if name in KEEPS else plugged[name][2]


def pass_made(program, name, plugged, kept):
    """What a pass makes of a program, by those facts that are kept, and others that are made."""
    if name in plugged:
        return ruled(program, plugged[name][1])
    need = NEEDS[name]
    told = kept[need] if need in kept else fact(program, need)
    return own_pass_made(program, name, told)


def own_pass_made(program, name, told):
    """What a pass that is always there makes of a program and the fact that it needs."""
    if name == "fold":
        return folded(program, told)
    if name == "bend":
        return bent(program, told)
    if name == "spread":
        return spread_out(program, told)
    if name == "reuse":
        return reused(program, told)
    if name == "dead":
        return without_dead(program, told)
    if name == "prune":
        return pruned(program, told)
    if name == "join":
        return joined(program, told)
    return skipped(program)


def passes_made(program, names, plugged):
    """What these passes make of a program, one behind the other."""
    for name in names:
        program = pass_made(program, name, plugged, {})
    return program
