"""Rows of passes: what they make of a program, and which of them is to blame, by halves."""

from passmill.errors import NoPasses
from passmill.passes import is_own_pass, is_pass, passes_made
from passmill.plugs import is_plug
from passmill.programs import check_program
from passmill.running import as_good, check_inputs

MOST_NAMES = 40


def after(program, names, *, plugs):
    """What these passes make of a program, one behind the other."""
    check_program(program)
    plugged = plugs_by_name(names, plugs)
    return passes_made(program, names, plugged)


def fine(program, names, inputs, *, plugs):
    """Whether the program behind these passes is as good as it is."""
    plugged = plugs_for(program, names, inputs, plugs)
    return is_fine(program, names, inputs, plugged)


def guilty(program, names, inputs, *, plugs):
    """None, if all is fine, else the place of the guilty pass, and the looks by which it was found."""
    plugged = plugs_for(program, names, inputs, plugs)
    if is_fine(program, names, inputs, plugged):
        return None
    low = 0
    high = len(names)
    looks = []
    while high - low > 1:
        many = (low + high) // 2
        told = is_fine(program, names[:many], inputs, plugged)
        looks.append((many, told))
        if told:
            low = many
        else:
            high = many
    return low, tuple(looks)


def needed(program, names, inputs, *, plugs):
    """None, if all is fine, else a list of those passes of which none can be left out."""
    plugged = plugs_for(program, names, inputs, plugs)
    if is_fine(program, names, inputs, plugged):
        return None
    left = list(names)
    fewer = with_one_less(program, left, inputs, plugged)
    while fewer is not None:
        left = fewer
        fewer = with_one_less(program, left, inputs, plugged)
    return left


def with_one_less(program, names, inputs, plugged):
    """These names without the first one that can be left out so that all is still not fine, or None."""
    for at in range(len(names)):
        fewer = names[:at] + names[at + 1:]
        if not is_fine(program, fewer, inputs, plugged):
            return fewer
    return None


def is_fine(program, names, inputs, plugged):
    """Whether the program behind these passes is as good as it is, all being checked."""
    return as_good(passes_made(program, names, plugged), program, inputs)


def plugs_for(program, names, inputs, plugs):
    """The plugged passes by their names, if nothing that is handed in is refused."""
    check_program(program)
    plugged = plugs_by_name(names, plugs)
    check_inputs(inputs)
    return plugged


def plugs_by_name(names, plugs):
    """The plugged passes by their names, if they and these names of passes are not refused."""
    if not are_plugs(plugs):
        raise NoPasses("plugs are a list of plugged passes with names of their own")
    plugged = {plug[0]: plug for plug in plugs}
    if not isinstance(names, list) or len(names) > MOST_NAMES:
        raise NoPasses("names are a list of at most 40 names")
    if not all(is_pass(name, plugged) for name in names):
        raise NoPasses("each name is that of a pass")
    return plugged


def are_plugs(thing):
    """Whether a thing is a list of plugged passes, called unlike one another and all that are always there."""
    if not isinstance(thing, list) or not all(is_plug(plug) for plug in thing):
        return False
    names = [plug[0] for plug in thing]
    return len(set(names)) == len(names) and not any(is_own_pass(name) for name in names)
