"""The eight facts of a program, and on which others each of them hangs."""

from passmill.errors import NoFact
from passmill.known import consts_of, copies_of, sums_of
from passmill.programs import check_program
from passmill.reading import live_of, uses_of
from passmill.ways import doms_of, edges_of, reach_of

# Those on which another one of a row hangs stand ahead of it.
HANGS = {
    "edges": (),
    "reach": ("edges",),
    "doms": ("edges", "reach"),
    "uses": (),
    "live": ("edges",),
    "consts": ("edges",),
    "copies": ("edges",),
    "sums": ("edges",),
}


def is_fact_name(thing):
    """Whether a thing, whatever it may be, is the name of a fact."""
    return isinstance(thing, str) and thing in HANGS


def check_fact_name(thing):
    """Refuse what is not the name of a fact."""
    if not is_fact_name(thing):
        raise NoFact("no fact has this name")


def hangs_on(name):
    """The names of the facts on which a fact hangs."""
    check_fact_name(name)
    return HANGS[name]


def fact(program, name):
    """The fact of this name."""
    check_program(program)
    check_fact_name(name)
    made = {}
    for other in HANGS[name]:
        made[other] = make_fact(program, other, made)
    return make_fact(program, name, made)


def make_fact(program, name, made):
    """The fact of this name, of those on which it hangs, by their names."""
    if name == "edges":
        return edges_of(program)
    if name == "uses":
        return uses_of(program)
    edges = made["edges"]
    if name == "reach":
        return reach_of(program, edges)
    if name == "doms":
        return doms_of(program, edges, made["reach"])
    if name == "live":
        return live_of(program, edges)
    if name == "consts":
        return consts_of(program, edges)
    if name == "copies":
        return copies_of(program, edges)
    return sums_of(program, edges)
