"""What facts must tell, found by slow looks at ways, one by one or all that can differ."""

SUMS = {
    "add": lambda y, z: (y + z) % 9973,
    "sub": lambda y, z: (y - z) % 9973,
    "mul": lambda y, z: (y * z) % 9973,
    "less": lambda y, z: int(y < z),
    "same": lambda y, z: int(y == z),
}
TOP = "not yet told"


def reads(row):
    """The places that a step or an end reads, in order."""
    if row[0] in ("put", "if"):
        return [row[1]]
    return [] if row[0] in ("set", "get", "go", "stop") else list(row[2:])


def writes(row):
    """The place that a step writes, or None."""
    return None if row[0] in ("put", "go", "if", "stop") else row[1]


def leads(end):
    """The blocks to which an end leads."""
    return {"go": end[1:], "if": end[2:], "stop": ()}[end[0]]


def simple_ways(program):
    """All ways from the first block on that come to no block twice."""
    ends = {name: end for name, steps, end in program}
    ways = [(program[0][0],)]
    for way in ways:
        ways.extend((*way, target) for target in set(leads(ends[way[-1]])) if target not in way)
    return ways


def reach(program):
    """All last blocks of such ways."""
    return tuple(sorted({way[-1] for way in simple_ways(program)}))


def doms(program):
    """For each last block what all such ways to it share; a way with rings has more blocks, so it tells nothing new."""
    ways = simple_ways(program)
    return tuple(
        (name, tuple(sorted(set.intersection(*(set(way) for way in ways if way[-1] == name)))))
        for name in reach(program)
    )


def is_live(program, point, place):
    """Whether a way from this point, a block and how many of its rows are done, reads the place first."""
    rows = {name: (*steps, end) for name, steps, end in program}
    seen, left = set(), [point]
    while left:
        name, at = left.pop()
        if (name, at) in seen:
            continue
        seen.add((name, at))
        row = rows[name][at]
        if place in reads(row):
            return True
        if at == len(rows[name]) - 1:
            left.extend((target, 0) for target in leads(row))
        elif writes(row) != place:
            left.append((name, at + 1))
    return False


def live(program, places):
    """For each block the places that are live at its beginning, and at that of each block to which it leads."""
    told = []
    for name, steps, end in sorted(program):
        start = tuple(place for place in places if is_live(program, (name, 0), place))
        behind = tuple(place for place in places if any(is_live(program, (to, 0), place) for to in leads(end)))
        told.append((name, start, behind))
    return tuple(told)


def copies_behind(rows, step):
    """The copies behind a step, of those ahead of it, a set of rows."""
    place = writes(step)
    rows = {row for row in rows if place not in row}
    if step[0] == "copy" and step[1] != step[2]:
        rows.add((step[1], step[2]))
    return frozenset(rows)


def sums_behind(rows, step):
    """The sums behind a step, of those ahead of it, a set of rows."""
    place = writes(step)
    rows = {((word, y, z), x) for (word, y, z), x in rows if place not in (x, y, z)}
    if step[0] in SUMS and place not in step[2:]:
        asked = (step[0], step[2], step[3])
        rows = {row for row in rows if row[0] != asked} | {(asked, place)}
    return frozenset(rows)


def shared_rows(program, behind):
    """For each block that is reached the rows that are there on all ways to it, each way followed by itself."""
    blocks = {block[0]: block for block in program}
    seen, left = set(), [(program[0][0], frozenset())]
    while left:
        name, rows = left.pop()
        if (name, rows) in seen:
            continue
        seen.add((name, rows))
        for step in blocks[name][1]:
            rows = behind(rows, step)
        left.extend((target, rows) for target in leads(blocks[name][2]))
    return tuple(
        (name, tuple(sorted(frozenset.intersection(*(rows for other, rows in seen if other == name)))))
        for name in reach(program)
    )


def consts_behind(told, step):
    """What is told of each place behind a step; never called with what is not yet told."""
    told = dict(told)
    known = [told[place] for place in reads(step)]
    if step[0] == "set":
        told[step[1]] = step[2]
    elif step[0] == "copy":
        told[step[1]] = known[0]
    elif step[0] in SUMS:
        told[step[1]] = None if None in known else SUMS[step[0]](*known)
    elif step[0] == "get":
        told[step[1]] = None
    return told


def consts(program, places):
    """The telling that tells most: round by round, each beginning met anew from all ways that lead to it."""
    starts = {block[0]: TOP for block in program}
    while True:
        found = {block[0]: [] for block in program}
        found[program[0][0]].append({place: 0 for place in places})
        for name, steps, end in program:
            told = starts[name]
            if told == TOP:
                continue
            for step in steps:
                told = consts_behind(told, step)
            for target in leads(end):
                found[target].append(told)
        met = {name: met_consts(ways, places) for name, ways in found.items()}
        if met == starts:
            return tuple(
                (name, tuple((place, told[place]) for place in places if told[place] != 0))
                for name, told in sorted(starts.items()) if told != TOP
            )
        starts = met


def met_consts(ways, places):
    """What all ways tell alike, None where they do not."""
    if not ways:
        return TOP
    alike = {place: {way[place] for way in ways} for place in places}
    return {place: found.pop() if len(found) == 1 else None for place, found in alike.items()}


def entries(program, inputs, turns=100):
    """For each time that a run comes to the beginning of a block its name, and what places bear then."""
    blocks = {block[0]: block for block in program}
    borne, inputs, name, found = {}, list(inputs), program[0][0], []
    while turns > 0:
        found.append((name, dict(borne)))
        _, steps, end = blocks[name]
        for step in steps:
            told = [borne.get(place, 0) for place in reads(step)]
            if step[0] == "set":
                borne[step[1]] = step[2]
            elif step[0] == "get":
                borne[step[1]] = inputs.pop(0) if inputs else 0
            elif step[0] != "put":
                borne[step[1]] = told[0] if step[0] == "copy" else SUMS[step[0]](*told)
        turns -= len(steps) + 1
        if end[0] == "stop":
            break
        name = end[1] if end[0] == "go" else (end[2] if borne.get(end[1], 0) else end[3])
    return found
