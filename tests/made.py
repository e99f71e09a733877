"""Programs and plugged passes made for the tests: many shapes by hand, and many more by a counted source."""

import random

from samples import ALL_WORDS, ROUND, STOP, one_block

FACT_NAMES = ("consts", "copies", "doms", "edges", "live", "reach", "sums", "uses")

DIAMOND = (
    ("a", (("get", "x"),), ("if", "x", "b", "c")),
    ("b", (("set", "y", 1),), ("go", "d")),
    ("c", (("set", "y", 2),), ("go", "d")),
    ("d", (("put", "y"),), ("stop",)),
)

# Ring within ring, and a way out of the inner one past the outer one.
RINGS = (
    ("a", (), ("go", "b")),
    ("b", (("get", "x"),), ("if", "x", "c", "f")),
    ("c", (("sub", "x", "x", "y"),), ("if", "x", "d", "e")),
    ("d", (), ("if", "y", "c", "f")),
    ("e", (), ("go", "b")),
    ("f", (("put", "x"),), ("stop",)),
)

OWN = one_block([("get", "x")], ("if", "x", "a", "a"))
BOTH = (("a", (("get", "x"),), ("if", "x", "b", "b")), ("b", (), ("stop",)))

# c, d and e are not reached; c leads to the reached b, d and e to each other, e to the first one.
UNREACHED = (
    ("a", (("set", "x", 1),), ("go", "b")),
    ("b", (("put", "x"),), ("stop",)),
    ("c", (("set", "x", 2),), ("if", "w", "b", "d")),
    ("d", (("put", "v"),), ("go", "e")),
    ("e", (("copy", "x", "u"),), ("if", "x", "d", "a")),
)

# The first block is not the first by name, and leads back to itself by way of another.
FALLING = (
    ("z", (("get", "x"),), ("if", "x", "m", "b")),
    ("m", (("copy", "y", "x"),), ("go", "z")),
    ("b", (("put", "y"),), ("if", "y", "aa", "a")),
    ("aa", (), ("go", "a")),
    ("a", (("add", "s", "x", "y"),), ("stop",)),
)

# Places and blocks have the same names.
NAMESAKES = (
    ("a", (("get", "b"), ("copy", "a", "b")), ("if", "a", "b", "c")),
    ("b", (("add", "c", "a", "b"),), ("go", "c")),
    ("c", (("put", "c"),), ("if", "b", "a", "c")),
)

SHAPES = (STOP, ROUND, ALL_WORDS, DIAMOND, RINGS, OWN, BOTH, UNREACHED, FALLING, NAMESAKES)


def chain_program():
    """A ring of blocks through which one place is copied to the next; dead leaves out one copy each time it goes."""
    names = "abcdefghijkl"
    places = [f"{first}{second}" for first in names for second in names]
    links = [("copy", place, source) for source, place in zip(places, places[1:])]
    return tuple((name, tuple(links[at::12]), ("go", names[(at + 1) % 12])) for at, name in enumerate(names))


CHAIN = chain_program()


def two_ways(ahead, left, right):
    """A program in which block d comes behind two ways, each with its own steps."""
    return (
        ("a", tuple(ahead), ("if", "q", "b", "c")),
        ("b", tuple(left), ("go", "d")),
        ("c", tuple(right), ("go", "d")),
        ("d", (), ("stop",)),
    )


def straight(steps):
    """A program in which block b comes behind these steps of block a, and nothing else."""
    return (("a", tuple(steps), ("go", "b")), ("b", (), ("stop",)))


def ring(ahead, within):
    """A program in which block b has these steps and leads to itself; the other ones come ahead of it."""
    return (("a", tuple(ahead), ("go", "b")), ("b", tuple(within), ("if", "q", "b", "c")), ("c", (), ("stop",)))


def made_step(source, places):
    """A step with these places."""
    word = source.choice(("set", "copy", "copy", "add", "add", "sub", "mul", "less", "same", "get", "put"))
    if word == "set":
        return (word, source.choice(places), source.choice((0, 0, 1, 2, 9972)))
    many = {"copy": 2, "get": 1, "put": 1}.get(word, 3)
    return (word, *(source.choice(places) for _ in range(many)))


def made_end(source, places, names):
    """An end that leads to some of these blocks."""
    word = source.choice(("go", "if", "if", "if", "stop"))
    if word == "stop":
        return (word,)
    if word == "go":
        return (word, source.choice(names))
    return (word, source.choice(places), source.choice(names), source.choice(names))


def made_program(number):
    """The program of this number, always the same."""
    source = random.Random(number)
    names = source.sample("abcdefgh", source.randint(1, 7))
    places = "abcdef"[:source.randint(2, 6)]
    most = source.randint(0, 5)
    blocks = []
    for name in names:
        steps = tuple(made_step(source, places) for _ in range(source.randint(0, most)))
        blocks.append((name, steps, made_end(source, places, names)))
    return tuple(blocks)


MADE = tuple(made_program(number) for number in range(400))


def pooled_program(number):
    """A program whose steps come from a few, so that the same sums and copies come again."""
    source = random.Random(number)
    places = "abcdef"[:source.randint(3, 5)]
    names = source.sample(("m", "aa", "b", "z", "c"), source.randint(1, 5))
    pool = [made_step(source, places) for _ in range(source.randint(2, 6))]
    blocks = []
    for name in names:
        steps = tuple(source.choice(pool) for _ in range(source.randint(0, 7)))
        blocks.append((name, steps, made_end(source, places, names)))
    return tuple(blocks)


POOLED = tuple(pooled_program(number) for number in range(250))


def made_form(source, signs, values):
    """A form with these signs for places, and these for values."""
    step = made_step(source, signs)
    return (*step[:2], source.choice(values)) if step[0] == "set" else step


def made_plug(number):
    """The plugged pass of this number; it says that it keeps what it may well break."""
    source = random.Random(number)
    rules = []
    for _ in range(source.randint(1, 3)):
        signs = "ABCD"[:source.randint(1, 4)]
        old = tuple(made_form(source, signs, ("N", "N", 1, 0)) for _ in range(source.randint(1, 2)))
        parts = [part for form in old for part in form[1:]]
        signs = [sign for sign in "ABCD" if sign in parts]
        values = ("N", 2) if "N" in parts else (0, 1, 2)
        rules.append((old, tuple(made_form(source, signs, values) for _ in range(source.randint(0, len(old))))))
    keeps = source.sample(FACT_NAMES, source.randint(0, 8))
    return (f"plug{chr(97 + number // 26)}{chr(97 + number % 26)}", tuple(rules), tuple(keeps))


PLUGS = tuple(made_plug(number) for number in range(60))
