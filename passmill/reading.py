"""Facts of what is read: "uses" and "live"."""

from passmill.programs import parts_of, places_of, rows_of
from passmill.ways import targets_by_name


def uses_of(program):
    """For each place that the program names how often steps and ends read it."""
    reads = [place for block in program for row in rows_of(block) for place in parts_of(row, "read")]
    return tuple((place, reads.count(place)) for place in places_of(program))


def live_of(program, edges):
    """For each block its name, and the places that may still be read from its beginning, and from behind its end."""
    targets = targets_by_name(edges)
    starts = {block[0]: () for block in program}
    turned = True
    while turned:
        turned = False
        # The last blocks come first, since what is read is carried against the way of a run.
        for block in reversed(program):
            name = block[0]
            start = live_before(rows_of(block), live_at(starts, targets[name]))
            if start != starts[name]:
                starts[name] = start
                turned = True
    return tuple((name, starts[name], live_at(starts, targets[name])) for name in sorted(starts))


def live_at(starts, names):
    """The places that may still be read at the beginning of one of these blocks, rising."""
    return tuple(sorted({place for name in names for place in starts[name]}))


def live_before(rows, behind):
    """The places that may still be read ahead of these steps and ends, rising, if these may be behind them."""
    live = {place: True for place in behind}
    for row in reversed(rows):
        go_back(live, row)
    return tuple(sorted(live))


def go_back(live, row):
    """Turn the places that may still be read behind a step or an end into those ahead of it."""
    for place in parts_of(row, "written"):
        live.pop(place, None)
    for place in parts_of(row, "read"):
        live[place] = True
