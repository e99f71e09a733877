"""Plugged passes: what is one."""

from passmill.errors import NoPlug
from passmill.facts import is_fact_name
from passmill.kinds import is_pass_name, is_value
from passmill.programs import STEP_WORDS, has_form

MOST_RULES = 6
MOST_FORMS = 3

PLACE_SIGNS = ("A", "B", "C", "D")
VALUE_SIGN = "N"


def is_plug(thing):
    """Whether a thing, whatever it may be, is a plugged pass."""
    if not isinstance(thing, tuple) or len(thing) != 3:
        return False
    name, rules, keeps = thing
    if not is_pass_name(name) or not are_fact_names(keeps):
        return False
    if not isinstance(rules, tuple) or not 1 <= len(rules) <= MOST_RULES:
        return False
    return all(is_rule(rule) for rule in rules)


def are_fact_names(thing):
    """Whether a thing is a tuple of unlike names of facts."""
    if not isinstance(thing, tuple) or not all(is_fact_name(name) for name in thing):
        return False
    return len(set(thing)) == len(thing)


def is_rule(thing):
    """Whether a thing is a rule: what is looked for, and what comes in its place."""
    if not isinstance(thing, tuple) or len(thing) != 2:
        return False
    old, new = thing
    if not are_forms(old, 1, MOST_FORMS) or not are_forms(new, 0, len(old)):
        return False
    bound = signs_of(old)
    return all(sign in bound for sign in signs_of(new))


def are_forms(thing, least, most):
    """Whether a thing is a tuple of so many forms."""
    if not isinstance(thing, tuple) or not least <= len(thing) <= most:
        return False
    return all(has_form(form, STEP_WORDS, is_form_part) for form in thing)


def is_form_part(part, kind):
    """Whether a part of a form may stand where this kind is asked for."""
    if kind == "value":
        return part == VALUE_SIGN or is_value(part)
    return part in PLACE_SIGNS


def signs_of(forms):
    """All signs in these forms, that of any value, too."""
    return [part for form in forms for part in form[1:] if is_sign(part)]


def is_sign(part):
    """Whether a part of a form stands for any place, or any value."""
    return part in PLACE_SIGNS or part == VALUE_SIGN


def check_plug(thing):
    """Refuse what is no plugged pass."""
    if not is_plug(thing):
        raise NoPlug("this is no plugged pass")
