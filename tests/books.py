"""Books that the tests use, and terms of them."""

from tests.samples import NAT, NONE, V0, V1, ZERO, deep

TO_NAT = ("all", NAT, NAT)
PLUS_KIND = ("all", NAT, TO_NAT)
PLUS = ("fun", NAT, ("fun", NAT, ("rec", NAT, V1, ("fun", NAT, ("fun", NAT, ("next", V0))), V0)))
TIMES = ("fun", NAT, ("fun", NAT, (
    "rec", NAT, ZERO, ("fun", NAT, ("fun", NAT, ("app", ("app", ("name", "plus"), V0), ("var", 3)))), V0)))
TURN_KIND = ("all", NAT, ("all", NAT, ("all", ("same", NAT, V1, V0), ("same", NAT, V1, ("var", 2)))))
TURN = ("fun", NAT, ("fun", NAT, ("fun", ("same", NAT, V1, V0), (
    "carry", ("same", NAT, V0, ("var", 3)), ("like", NAT, ("var", 2)), V0))))

# Each kind is let by, and each term of its kind, with the names ahead of it.
SOUND = {
    "plus": (PLUS_KIND, PLUS),
    "times": (PLUS_KIND, TIMES),
    "two": (NAT, ("next", ("next", ZERO))),
    "four": (NAT, ("app", ("app", ("name", "plus"), ("name", "two")), ("name", "two"))),
    "fact": (("same", NAT, ("name", "four"), deep(5)), ("like", NAT, ("name", "four"))),
    "turn": (TURN_KIND, TURN),
}

# What is in it need not be let by, and much of it steps without end.
WILD = {
    "loop": (NAT, ("name", "loop")),
    "ping": (NAT, ("name", "pong")),
    "pong": (NONE, ("name", "ping")),
    "grow": (NAT, ("next", ("name", "grow"))),
    "liar": (NONE, ZERO),
    "thirty": (NAT, deep(30)),
}


def number(count):
    return deep(count + 1)


def at(function, *values):
    for term in values:
        function = ("app", function, term)
    return function


def plus(one, other):
    return at(("name", "plus"), one, other)


def wide_nat(knots, function=("name", "plus")):
    """A term of the kind nat, of so many knots, made with a function of two numbers.

    With a variable as the function nothing in it steps."""
    if knots <= 4:
        return deep(knots)
    half = (knots - 3) // 2
    return at(function, wide_nat(half, function), wide_nat(knots - 3 - half, function))


def row_of_names(count):
    """A book in which each of so many names tells the next one, and the names in order."""
    signs = "abcdefghij"
    names = ["q" + "".join(signs[int(figure)] for figure in str(place)) for place in range(count)]
    terms = [("name", name) for name in names[1:]] + [ZERO]
    return {name: (NAT, term) for name, term in zip(names, terms)}, names
