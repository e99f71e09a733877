"""What whole numbers, values, names and names of passes are."""

LETTERS = "abcdefghijklmnopqrstuvwxyz"
MODULUS = 9973
LONGEST_NAME = 3
LONGEST_PASS_NAME = 6


def is_whole(thing, low, high):
    """Whether a thing is a whole number from low to high."""
    # Python counts truths among the ints, the document does not.
    if isinstance(thing, bool) or not isinstance(thing, int):
        return False
    return low <= thing <= high


def is_value(thing):
    """Whether a place may bear this thing."""
    return is_whole(thing, 0, MODULUS - 1)


def is_word(thing, longest):
    """Whether a thing is a text of 1 to so many letters a to z."""
    if not isinstance(thing, str) or not 1 <= len(thing) <= longest:
        return False
    return all(letter in LETTERS for letter in thing)


def is_name(thing):
    """Whether a block or a place may be called by this thing."""
    return is_word(thing, LONGEST_NAME)


def is_pass_name(thing):
    """Whether a pass may be called by this thing."""
    return is_word(thing, LONGEST_PASS_NAME)
