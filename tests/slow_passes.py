"""What passes must make of a program, found another way, by the slow looks of oracles.py."""

import re

import oracles

NEEDS = {
    "fold": "consts", "bend": "consts", "spread": "copies", "reuse": "sums",
    "dead": "live", "prune": "reach", "join": "edges", "skip": "edges",
}
KEEPS = {
    "fold": ("consts", "doms", "edges", "reach"),
    "bend": (),
    "spread": ("consts", "doms", "edges", "reach"),
    "reuse": ("doms", "edges", "reach"),
    "dead": ("doms", "edges", "reach"),
    "prune": ("doms", "reach"),
    "join": ("uses",),
    "skip": ("uses",),
}
HANGS = {
    "edges": (), "reach": ("edges",), "doms": ("edges", "reach"), "uses": (), "live": ("edges",),
    "consts": ("edges",), "copies": ("edges",), "sums": ("edges",),
}
OWN = tuple(NEEDS)


def all_places(program):
    """All places that a program names."""
    rows = [row for _, steps, end in program for row in (*steps, end)]
    return sorted({place for row in rows for place in [*oracles.reads(row), oracles.writes(row)] if place is not None})


def told_consts(program):
    """For each reached block what each place bears at its beginning."""
    places = all_places(program)
    return {name: {**dict.fromkeys(places, 0), **dict(rows)} for name, rows in oracles.consts(program, places)}


def fold(program):
    told = told_consts(program)
    blocks = []
    for name, steps, end in program:
        new = list(steps)
        for at, step in enumerate(steps):
            if name in told:
                told[name] = oracles.consts_behind(told[name], step)
                if step[0] not in ("set", "get", "put") and told[name][step[1]] is not None:
                    new[at] = ("set", step[1], told[name][step[1]])
        blocks.append((name, tuple(new), end))
    return tuple(blocks)


def bend(program):
    told = told_consts(program)
    blocks = []
    for name, steps, end in program:
        ways = set(oracles.leads(end))
        if name in told and end[0] == "if":
            for step in steps:
                told[name] = oracles.consts_behind(told[name], step)
            worth = told[name][end[1]]
            if worth is not None:
                ways = {end[2] if worth else end[3]}
        blocks.append((name, steps, ("go", *ways) if len(ways) == 1 else end))
    return tuple(blocks)


def by_rows(program, behind, change):
    """Each step and end changed by the rows that all ways to it share."""
    starts = dict(oracles.shared_rows(program, behind))
    blocks = []
    for name, steps, end in program:
        if name not in starts:
            blocks.append((name, steps, end))
            continue
        rows, new = frozenset(starts[name]), []
        for row in (*steps, end):
            new.append(change(dict(rows), row))
            rows = behind(rows, row) if row != end else rows
        blocks.append((name, tuple(new[:-1]), new[-1]))
    return tuple(blocks)


def read_other(known, row):
    """The row with each place that it reads replaced."""
    if row[0] in ("put", "if"):
        return (row[0], known.get(row[1], row[1]), *row[2:])
    if row[0] in ("set", "get", "go", "stop"):
        return row
    return (*row[:2], *(known.get(place, place) for place in row[2:]))


def stands_already(known, row):
    """The row, or a copy of the place in which its sum stands."""
    if row[0] in oracles.SUMS and (row[0], *row[2:]) in known:
        return ("copy", row[1], known[(row[0], *row[2:])])
    return row


def spread(program):
    return by_rows(program, oracles.copies_behind, read_other)


def reuse(program):
    return by_rows(program, oracles.sums_behind, stands_already)


def dead(program):
    blocks = []
    for name, steps, end in program:
        left = list(steps)
        for at in range(len(steps) - 1, -1, -1):
            word, place = steps[at][:2]
            if word in ("get", "put"):
                continue
            if steps[at] == ("copy", place, place) or not is_read(program, left[at + 1:], end, place):
                del left[at]
        blocks.append((name, tuple(left), end))
    return tuple(blocks)


def is_read(program, steps, end, place):
    """Whether a place is read by these steps, this end, or behind it, before it is written."""
    for row in (*steps, end):
        if place in oracles.reads(row):
            return True
        if place == oracles.writes(row):
            return False
    return any(oracles.is_live(program, (target, 0), place) for target in oracles.leads(end))


def prune(program):
    return tuple(block for block in program if block[0] in oracles.reach(program))


def join(program):
    for front in program:
        for back in program[1:]:
            others = [name for name, _, end in program if back[0] in oracles.leads(end)]
            if front[2] == ("go", back[0]) and others == [front[0]] and front != back:
                if len(front[1]) + len(back[1]) < 17:
                    both = (front[0], front[1] + back[1], back[2])
                    return join(tuple(both if block == front else block for block in program if block != back))
    return program


def skip(program):
    blocks = {block[0]: block for block in program}

    def past(name):
        came = [name]
        while blocks[came[-1]][1] == () and blocks[came[-1]][2][0] == "go":
            came.append(blocks[came[-1]][2][1])
            if came.count(came[-1]) == 2:
                break
        return came[-1]

    def turned(end):
        many = len(oracles.leads(end))
        return (*end[:len(end) - many], *(past(name) for name in oracles.leads(end)))

    return tuple((name, steps, turned(end)) for name, steps, end in program)


def plugged(program, plug):
    """What a plugged pass makes, by patterns over the steps written as texts."""
    rules = [(len(old), re.compile(pattern(old)), template(new)) for old, new in plug[1]]
    return tuple((name, tuple(replaced(list(steps), rules)), end) for name, steps, end in program)


def pattern(old):
    """A pattern for the writing of steps with these forms."""
    seen, found = set(), []
    for form in old:
        for part in form:
            if part in ("A", "B", "C", "D", "N"):
                found.append(f"(?P={part})" if part in seen else f"(?P<{part}>[a-z0-9]+)")
                seen.add(part)
            else:
                found.append(str(part))
        found.append(";")
    return " ".join(found) + "$"


def template(new):
    """What replaces such a writing."""
    return [" ".join(f"{{{part}}}" if str(part) in "ABCDN" else str(part) for part in form) for form in new]


def replaced(steps, rules):
    """The steps with what the first rule that fits puts there, one by one from the first on."""
    while steps:
        for many, found, new in rules:
            text = " ".join(" ".join(str(part) for part in (*step, ";")) for step in steps[:many])
            fit = found.match(text)
            if fit:
                for row in new:
                    yield tuple(int(part) if part.isdigit() else part for part in row.format(**fit.groupdict()).split())
                del steps[:many]
                break
        else:
            yield steps.pop(0)


SLOW = {
    "fold": fold, "bend": bend, "spread": spread, "reuse": reuse,
    "dead": dead, "prune": prune, "join": join, "skip": skip,
}


def after(program, names, plugs=()):
    """What these passes make of a program."""
    by_name = {plug[0]: plug for plug in plugs}
    for name in names:
        program = SLOW[name](program) if name in SLOW else plugged(program, by_name[name])
    return program
