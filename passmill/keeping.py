"""Facts that are kept, a dict by their names: made where they are missing, dropped, and found false."""

from passmill.facts import fact, hangs_on, make_fact


def make_missing(program, name, kept):
    """Keep a fact, and those of which it is made, where they are not; told are the names of all that were made."""
    if name in kept:
        return ()
    # Those on which another one hangs stand ahead of it there.
    missing = [other for other in (*hangs_on(name), name) if other not in kept]
    for other in missing:
        kept[other] = make_fact(program, other, kept)
    return tuple(missing)


def drop(kept, fallen):
    """Drop these facts, with all that hang on them; told is a list of the names of all that were dropped."""
    dropped = [name for name in kept if falls(name, fallen)]
    for name in dropped:
        del kept[name]
    return dropped


def falls(name, fallen):
    """Whether a fact is one of these, or hangs on one of them."""
    return any(other in fallen for other in (name, *hangs_on(name)))


def drop_unkept(kept, keeps):
    """Drop all facts that are not among those which a pass keeps, with all that hang on them."""
    return drop(kept, [name for name in kept if name not in keeps])


def false_facts(program, kept):
    """The names of the kept facts that are otherwise than made anew, rising."""
    return [name for name in sorted(kept) if kept[name] != fact(program, name)]
