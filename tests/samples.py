"""Things that the tests use."""

import random

NAT = ("nat",)
NONE = ("none",)
ZERO = ("zero",)
WORDS = (
    "nat", "none", "all", "some", "same",
    "var", "fun", "app", "zero", "next", "rec", "like", "carry", "never", "pair", "first", "second", "name",
)

KIND_WORDS = WORDS[:5]

# The number of the child that a binder of the thing stands over.
BINDS = {"all": 1, "some": 1, "fun": 1, "rec": 0, "carry": 0}


def var(number):
    return ("var", number)


V0, V1, V2, V3 = var(0), var(1), var(2), var(3)

KINDS = (
    NAT,
    NONE,
    ("all", NAT, NONE),
    ("some", NAT, NONE),
    ("same", NAT, ZERO, V1),
)
TERMS = (
    V2,
    ("fun", NAT, V0),
    ("app", V0, V1),
    ZERO,
    ("next", ZERO),
    ("rec", NAT, ZERO, V1, V2),
    ("like", NAT, ZERO),
    ("carry", NAT, ZERO, V1),
    ("never", NAT, V0),
    ("pair", ("some", NAT, NAT), ZERO, V0),
    ("first", V0),
    ("second", V1),
    ("name", "plus"),
)


def deep(depth, bottom=ZERO):
    """A term with so many knots one below the other, if the bottom is one knot."""
    thing = bottom
    for count in range(depth - 1):
        thing = ("next", thing)
    return thing


def deep_kind(depth):
    thing = NAT
    for count in range(depth - 1):
        thing = ("all", NAT, thing)
    return thing


def wide(knots, leaf=ZERO):
    """A term of so many knots that is as flat as can be."""
    if knots == 1:
        return leaf
    if knots == 2:
        return ("next", leaf)
    half = (knots - 1) // 2
    return ("app", wide(half, leaf), wide(knots - 1 - half, leaf))


def wide_kind(knots):
    """A kind of so many knots (from 5 on)."""
    half = (knots - 2) // 2
    return ("same", NAT, wide(half), wide(knots - 2 - half))


def under(binders, thing):
    """The term under so many binders."""
    for count in range(binders):
        thing = ("fun", NAT, thing)
    return thing


def some_kind(chance, depth, top):
    word = chance.choice(("nat", "none", "all", "some", "same")) if depth > 1 else chance.choice(("nat", "none"))
    if word in ("all", "some"):
        return (word, some_kind(chance, depth - 1, top), some_kind(chance, depth - 1, top))
    if word == "same":
        return (word, some_kind(chance, depth - 1, top),
                some_term(chance, depth - 1, top), some_term(chance, depth - 1, top))
    return (word,)


SHAPES = {
    "fun": "kt", "app": "tt", "next": "t", "rec": "kttt", "like": "kt", "carry": "ktt",
    "never": "kt", "pair": "ktt", "first": "t", "second": "t",
}


def some_term(chance, depth, top):
    if depth <= 1 or chance.random() < 0.3:
        return chance.choice((var(chance.randrange(top)), var(chance.randrange(top)), ZERO, ("name", "plus")))
    word = chance.choice(sorted(SHAPES))
    kids = [some_kind(chance, depth - 1, top) if due == "k" else some_term(chance, depth - 1, top)
            for due in SHAPES[word]]
    return (word,) + tuple(kids)


def many(make, count, seed, depth, top):
    """Things of all sorts, the same ones each time; all of them are within the bounds."""
    chance = random.Random(seed)
    things = []
    while len(things) < count:
        thing = make(chance, depth, top)
        if str(thing).count("(") <= 150:
            things.append(thing)
    return things


def many_terms(count, seed, depth=5, top=6):
    return many(some_term, count, seed, depth, top)


def many_kinds(count, seed, depth=5, top=6):
    return many(some_kind, count, seed, depth, top)
