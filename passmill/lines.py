"""Lines, which tell what passes go: read, and written."""

from passmill.errors import NoLine
from passmill.kinds import LETTERS, LONGEST_PASS_NAME, is_pass_name, is_whole

DEEPEST = 4

# None stands for: again, until nothing turns.
TIMES = {"1": 1, "2": 2, "3": 3, "4": 4, "5": 5, "6": 6, "7": 7, "8": 8, "9": 9, "+": None}


def read_line(text):
    """A list of the items of a line."""
    if not isinstance(text, str):
        raise NoLine(0)
    if text == "":
        return []
    items, at = items_from(text, 0, 0)
    if at < len(text):
        raise NoLine(at)
    return items


def items_from(text, at, depth):
    """The items that begin at a place, so many brackets deep, and the place behind them."""
    item, at = item_from(text, at, depth)
    items = [item]
    while leads_on(text, at):
        item, at = item_from(text, at + 1, depth)
        items.append(item)
    return items, at


def leads_on(text, at):
    """Whether a blank stands at a place, and what is behind it may be an item."""
    return sign_at(text, at) == " " and sign_at(text, at + 1) not in (" ", ")", "")


def sign_at(text, at):
    """The sign at a place, the empty text, if none is left."""
    return text[at:at + 1]


def item_from(text, at, depth):
    """The item that begins at a place, and the place behind it."""
    if sign_at(text, at) == "(":
        return bracket_from(text, at, depth)
    return name_from(text, at)


def name_from(text, at):
    """The name that begins at a place, and the place behind it."""
    behind = at
    while behind < len(text) and text[behind] in LETTERS:
        behind += 1
    if not 1 <= behind - at <= LONGEST_PASS_NAME:
        raise NoLine(at)
    return text[at:behind], behind


def bracket_from(text, at, depth):
    """The bracket that begins at a place, as an item, and the place behind it."""
    if depth == DEEPEST:
        raise NoLine(at)
    items, at = items_from(text, at + 1, depth + 1)
    if sign_at(text, at) != ")":
        raise NoLine(at)
    times = sign_at(text, at + 1)
    if times not in TIMES:
        raise NoLine(at + 1)
    return (TIMES[times], tuple(items)), at + 2


def line_text(items):
    """The line that has these items."""
    if not isinstance(items, list) or not are_items(items, 0):
        raise NoLine(0)
    return text_of(items)


def are_items(things, depth):
    """Whether all these things are items, so many brackets deep."""
    return all(is_item(thing, depth) for thing in things)


def is_item(thing, depth):
    """Whether a thing is a name, or a bracket that is not too deep."""
    if not isinstance(thing, tuple):
        return is_pass_name(thing)
    if len(thing) != 2 or depth == DEEPEST:
        return False
    times, items = thing
    if times is not None and not is_whole(times, 1, 9):
        return False
    return isinstance(items, tuple) and len(items) > 0 and are_items(items, depth + 1)


def text_of(items):
    """The writing of what are items."""
    return " ".join(item_text(item) for item in items)


def item_text(item):
    """The writing of one item."""
    if isinstance(item, str):
        return item
    times, items = item
    mark = "+" if times is None else str(times)
    return f"({text_of(items)}){mark}"
