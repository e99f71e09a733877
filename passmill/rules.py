"""What the rules of a plugged pass make of a program."""

from passmill.plugs import is_sign


def ruled(program, rules):
    """The program in which what is looked for by these rules is replaced, throughout."""
    return tuple((name, ruled_steps(steps, rules), end) for name, steps, end in program)


def ruled_steps(steps, rules):
    """These steps with what the rules put in their place."""
    came = []
    at = 0
    while at < len(steps):
        taken, new = first_fit(steps[at:], rules)
        came.extend(new)
        at += taken
    return tuple(came)


def first_fit(steps, rules):
    """How many of these steps the first rule that fits takes, and what it puts there; without one, a step stays."""
    for old, new in rules:
        stands = what_signs_mean(old, steps[:len(old)])
        if stands is not None:
            return len(old), [filled(form, stands) for form in new]
    return 1, [steps[0]]


def what_signs_mean(forms, steps):
    """What each sign stands for, if these steps have these forms, or None."""
    if [step[0] for step in steps] != [form[0] for form in forms]:
        return None
    stands = {}
    for sign, part in pairs_of(forms, steps):
        # Words and values stand for themselves.
        meant = stands.setdefault(sign, part) if is_sign(sign) else sign
        if meant != part:
            return None
    return stands


def pairs_of(forms, steps):
    """Each part of these forms with what stands at its place in these steps."""
    return [(sign, part) for form, step in zip(forms, steps) for sign, part in zip(form, step)]


def filled(form, stands):
    """The step that a form is, if its signs stand for this."""
    return tuple(stands.get(part, part) for part in form)
