"""Showing: from a thing to its text."""

from keeper.errors import NoVariable
from keeper.putting import free_in
from keeper.things import BINDER_OVER, LETTERS, binds_of, depth_of, is_name, kids_of


def names_in(thing):
    if thing[0] == "name":
        return [thing[1]]
    found = []
    for kid in kids_of(thing):
        found.extend(names_in(kid))
    return found


def name_after(name):
    stem = name.rstrip("z")
    rest = "a" * (len(name) - len(stem))
    if stem == "":
        return "a" + rest
    return stem[:-1] + LETTERS[LETTERS.index(stem[-1]) + 1] + rest


# What else is taken is the same for all binders of a thing, so each one's name depends only on how many
# binders stand over it: without any it is the first of these, with one the second, and so on.
def names_left(count, taken):
    left = []
    name = "a"
    while len(left) < count:
        if is_name(name) and name not in taken:
            left.append(name)
        name = name_after(name)
    return left


def number_told(thing):
    count = 0
    here = thing
    while here[0] == "next":
        count += 1
        here = here[1]
    return count if here[0] == "zero" else None


# `around` are the names of the variables here, the nearest one first; `left` those for binders still to come.
def text_of(thing, around, left):
    if thing[0] == "var":
        return around[thing[1]]
    if thing[0] == "name":
        return thing[1]
    number = number_told(thing)
    if number is not None:
        return str(number)
    kids = kids_of(thing)
    if len(kids) == 0:
        return thing[0]
    parts = [thing[0]]
    if thing[0] in BINDER_OVER:
        parts.append(left[0])
    for kid, bound in zip(kids, binds_of(thing)):
        # Where the binder stands over the kid, and only there, one name is no longer left.
        parts.append(text_of(kid, left[:bound] + around, left[bound:]))
    inner = " ".join(parts)
    return f"({inner})"


def shown(thing, names):
    free = free_in(thing)
    if len(free) > 0 and free[-1] >= len(names):
        raise NoVariable("a free variable without a name")
    taken = {}
    for name in list(names) + names_in(thing):
        taken[name] = True
    return text_of(thing, list(names), names_left(depth_of(thing), taken))
