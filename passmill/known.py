"""Facts of what is known at the beginning of each block: "consts", "copies" and "sums".

What is known is a dict of its rows. A step turns it; where ways meet, two become one.
"""

from passmill.programs import parts_of
from passmill.running import sum_of
from passmill.ways import targets_by_name

SUM_WORDS = ("add", "sub", "mul", "less", "same")


def consts_of(program, edges):
    """For each block that is reached its name, and the values of places that are not known to bear 0."""
    return known_rows(program, edges, turn_consts, meet_consts)


def copies_of(program, edges):
    """For each block that is reached its name, and which places are copies of which."""
    return known_rows(program, edges, turn_copies, meet_rows)


def sums_of(program, edges):
    """For each block that is reached its name, and which sums stand in which places."""
    return known_rows(program, edges, turn_sums, meet_rows)


def known_rows(program, edges, turn, meet):
    """For each block that is reached its name, and the rows of what is known at its beginning."""
    starts = known_starts(program, edges, turn, meet)
    return tuple((name, tuple(sorted(starts[name].items()))) for name in sorted(starts))


def known_by_name(told):
    """For each name of a block of which such a fact tells what is known at its beginning."""
    return {name: {key: worth for key, worth in rows} for name, rows in told}


def known_starts(program, edges, turn, meet):
    """What is known at the beginning of each block that is reached."""
    steps_by_name = {name: steps for name, steps, end in program}
    targets = targets_by_name(edges)
    first = program[0][0]
    # A block has no entry until a way leads to it: so the first way tells all, and others only take away.
    starts = {first: {}}
    left = [first]
    while left:
        name = left.pop(0)
        known = known_behind(steps_by_name[name], starts[name], turn)
        for target in targets[name]:
            met = meet(starts[target], known) if target in starts else known
            if target not in starts or met != starts[target]:
                starts[target] = met
                left.append(target)
    return starts


def known_behind(steps, start, turn):
    """What is known behind these steps, if this is known ahead of them."""
    known = {key: start[key] for key in start}
    for step in steps:
        turn(known, step)
    return known


def meet_rows(known, other):
    """The rows that both have."""
    return {key: known[key] for key in known if key in other and other[key] == known[key]}


def meet_consts(known, other):
    """What two ways tell of values: None of each place that they tell otherwise."""
    met = {}
    for place in [*known, *other]:
        told = known.get(place, 0)
        met[place] = told if told == other.get(place, 0) else None
    return met


def turn_consts(known, step):
    """Turn the values that are known ahead of a step into those behind it."""
    for place in parts_of(step, "written"):
        told = const_for(known, step)
        if told == 0:
            known.pop(place, None)
        else:
            known[place] = told


def const_for(known, step):
    """The value that a step writes, or None, if it is not known."""
    word = step[0]
    if word == "set":
        return step[2]
    told = [known.get(place, 0) for place in parts_of(step, "read")]
    if word == "get" or None in told:
        return None
    if word == "copy":
        return told[0]
    return sum_of(word, told[0], told[1])


def turn_copies(known, step):
    """Turn the copies that are known ahead of a step into those behind it."""
    for place in parts_of(step, "written"):
        for copied in list(known):
            if place in (copied, known[copied]):
                del known[copied]
    if step[0] == "copy" and step[1] != step[2]:
        known[step[1]] = step[2]


def turn_sums(known, step):
    """Turn the sums that are known ahead of a step into those behind it."""
    for place in parts_of(step, "written"):
        for asked in list(known):
            if place in (asked[1], asked[2], known[asked]):
                del known[asked]
    if step[0] in SUM_WORDS and step[1] not in (step[2], step[3]):
        word, place, left, right = step
        known[word, left, right] = place
