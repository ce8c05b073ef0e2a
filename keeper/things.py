"""Things: their shape, their children, and how great they may be."""

from keeper.errors import Great

MOST_KNOTS = 600
MOST_DEEP = 40
MOST_VARIABLE = 99
MOST_LETTERS = 12
LETTERS = "abcdefghijklmnopqrstuvwxyz"

KIND_WORDS = ("nat", "none", "all", "some", "same")

# All eighteen words are here, each with what is due at its children.
KIDS_DUE = {
    "nat": (),
    "none": (),
    "all": ("kind", "kind"),
    "some": ("kind", "kind"),
    "same": ("kind", "term", "term"),
    "var": (),
    "fun": ("kind", "term"),
    "app": ("term", "term"),
    "zero": (),
    "next": ("term",),
    "rec": ("kind", "term", "term", "term"),
    "like": ("kind", "term"),
    "carry": ("kind", "term", "term"),
    "never": ("kind", "term"),
    "pair": ("kind", "term", "term"),
    "first": ("term",),
    "second": ("term",),
    "name": (),
}

BINDER_OVER = {"all": 1, "some": 1, "fun": 1, "rec": 0, "carry": 0}


def is_number(value):
    # To Python a truth is a number, here it is none.
    return isinstance(value, int) and not isinstance(value, bool)


def is_name(value):
    if not isinstance(value, str) or not 1 <= len(value) <= MOST_LETTERS:
        return False
    return value not in KIDS_DUE and all([sign in LETTERS for sign in value])


def begins_due(value, due):
    if not isinstance(value, tuple) or len(value) == 0 or value[0] not in KIDS_DUE:
        return False
    return (value[0] in KIND_WORDS) == (due == "kind")


def is_shaped(value, due):
    if not begins_due(value, due):
        return False
    if value[0] == "var":
        return len(value) == 2 and is_number(value[1]) and 0 <= value[1] <= MOST_VARIABLE
    if value[0] == "name":
        return len(value) == 2 and is_name(value[1])
    dues = KIDS_DUE[value[0]]
    if len(value) != 1 + len(dues):
        return False
    return all([is_shaped(kid, kid_due) for kid, kid_due in zip(value[1:], dues)])


def is_vast(value):
    # Level by level, and no further than the bounds: of one tuple within another again and again
    # there could be more knots than can ever be counted.
    level = [value]
    knots = 0
    for depth in range(MOST_DEEP):
        knots += len(level)
        if knots > MOST_KNOTS:
            return True
        below = []
        for knot in level:
            below.extend([part for part in knot if isinstance(part, tuple)])
        level = below
    return len(level) > 0


def is_thing(value, due):
    # Whether it is vast comes first: what is vast could take for ever to look at part by part.
    return isinstance(value, tuple) and not is_vast(value) and is_shaped(value, due)


def is_term(thing):
    return is_thing(thing, "term")


def is_kind(thing):
    return is_thing(thing, "kind")


def kids_of(thing):
    if thing[0] == "var" or thing[0] == "name":
        return []
    return list(thing[1:])


def binds_of(thing):
    over = BINDER_OVER.get(thing[0])
    return [1 if number == over else 0 for number in range(len(KIDS_DUE[thing[0]]))]


def size_of(thing):
    return 1 + sum([size_of(kid) for kid in kids_of(thing)])


def depth_of(thing):
    return 1 + max([depth_of(kid) for kid in kids_of(thing)], default=0)


def top_variable(thing):
    if thing[0] == "var":
        return thing[1]
    return max([top_variable(kid) for kid in kids_of(thing)], default=0)


def bounded(thing):
    if is_vast(thing) or top_variable(thing) > MOST_VARIABLE:
        raise Great("a thing is too great")
    return thing


def rebuilt(thing, kids):
    # What is only gone through on the way may be too great, so nothing is refused here.
    if len(kids) == 0:
        return thing
    return (thing[0],) + tuple(kids)


def with_kids(thing, kids):
    return bounded(rebuilt(thing, kids))
