"""Steps: the seven rules, and where in a thing something steps."""

from keeper.errors import NoStep
from keeper.places import at_place, with_at
from keeper.putting import put_in
from keeper.things import kids_of

# By the word of a thing: the part of it that decides, the word which that part must begin with, and the rule.
RULES = {
    "app": ((1, "fun", "fun"),),
    "rec": ((4, "zero", "zero"), (4, "next", "next")),
    "carry": ((3, "like", "like"),),
    "first": ((1, "pair", "first"),),
    "second": ((1, "pair", "second"),),
}


def rule_of(thing, book):
    if thing[0] == "name":
        return "name" if thing[1] in book else None
    for part, word, rule in RULES.get(thing[0], ()):
        if thing[part][0] == word:
            return rule
    return None


def after_next(thing):
    number = thing[4][1]
    return ("app", ("app", thing[3], number), thing[:4] + (number,))


def after_rule(thing, rule, book):
    if rule == "fun":
        return put_in(thing[1][2], thing[2], 0)
    if rule == "next":
        return after_next(thing)
    if rule == "first":
        return thing[1][2]
    if rule == "second":
        return thing[1][3]
    if rule == "name":
        return book[thing[1]][1]
    # What is left is zero and like, and both come to what stands behind the kind.
    return thing[2]


def stepped(thing, place, book):
    here = at_place(thing, place)
    rule = rule_of(here, book)
    if rule is None:
        raise NoStep("nothing steps at this place")
    return with_at(thing, place, after_rule(here, rule, book))


def steps_of(thing, book):
    own = rule_of(thing, book)
    steps = [] if own is None else [((), own)]
    for number, kid in enumerate(kids_of(thing)):
        steps.extend([((number,) + place, rule) for place, rule in steps_of(kid, book)])
    return steps


def first_step(thing, book):
    rule = rule_of(thing, book)
    if rule is not None:
        return ((), rule)
    for number, kid in enumerate(kids_of(thing)):
        step = first_step(kid, book)
        if step is not None:
            return ((number,) + step[0], step[1])
    return None
