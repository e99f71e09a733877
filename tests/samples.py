"""Programs and wrong things that several test files use."""

# Names every word of a step and every end, and stops with any inputs.
ALL_WORDS = (
    ("a", (("get", "x"), ("set", "one", 1), ("copy", "y", "x")), ("if", "x", "b", "c")),
    ("b", (
        ("add", "s", "x", "y"),
        ("sub", "d", "x", "one"),
        ("mul", "m", "s", "d"),
        ("less", "l", "d", "x"),
        ("same", "e", "x", "y"),
        ("put", "m"),
        ("put", "l"),
        ("put", "e"),
    ), ("go", "c")),
    ("c", (), ("stop",)),
)

STOP = (("a", (), ("stop",)),)
ROUND = (("a", (), ("go", "a")),)

# None of these may stand anywhere in a program, nor be one.
NOWHERE_RIGHT = (
    None, True, False, -1, 9973, 10 ** 30, "", "A", "abcd", "a b", "a\n", "\u00e9",
    [], [1], ["a"], ["a", (), ("stop",)], [["a"]], ((),), (None,), (True,), ("stop", None),
    ((((((),),),),),), [[[[[[]]]]]], [((["x"], None), [True])], (((((("a",),),),),),),
)


def one_block(steps, end=("stop",)):
    """A program of one block that has these steps."""
    return (("a", tuple(steps), end),)


def with_each_node_replaced(thing, other):
    """The thing with each of its nodes, from the whole down to each leaf, replaced by another."""
    yield other
    if isinstance(thing, tuple):
        for at, part in enumerate(thing):
            for changed in with_each_node_replaced(part, other):
                yield (*thing[:at], changed, *thing[at + 1:])


def with_each_tuple_a_list(thing):
    """The thing with each of its tuples, one at a time, turned into a list."""
    if isinstance(thing, tuple):
        yield list(thing)
        for at, part in enumerate(thing):
            for changed in with_each_tuple_a_list(part):
                yield (*thing[:at], changed, *thing[at + 1:])


def wrong_programs():
    """Many things that are no programs."""
    found = list(with_each_tuple_a_list(ALL_WORDS))
    for wrong in NOWHERE_RIGHT:
        found.extend(with_each_node_replaced(ALL_WORDS, wrong))
    return found
