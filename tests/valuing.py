"""Reducing by another way: terms are given values, with Python's functions for binders, and are read back."""

from tests.samples import BINDS


def value_of(thing, around, book):
    word = thing[0]
    if word == "var":
        return around[thing[1]] if thing[1] < len(around) else ("outer", thing[1] - len(around))
    if word == "name":
        return value_of(book[thing[1]][1], [], book) if thing[1] in book else thing
    parts = [word]
    for place, kid in enumerate(thing[1:]):
        if BINDS.get(word) == place:
            parts.append(lambda new, kid=kid: value_of(kid, [new] + around, book))
        else:
            parts.append(value_of(kid, around, book))
    return settled(tuple(parts))


def settled(value):
    word = value[0]
    if word == "app" and value[1][0] == "fun":
        return value[1][2](value[2])
    if word == "rec" and value[4][0] == "zero":
        return value[2]
    if word == "rec" and value[4][0] == "next":
        below = settled(value[:4] + (value[4][1],))
        return settled(("app", settled(("app", value[3], value[4][1])), below))
    if word == "carry" and value[3][0] == "like":
        return value[2]
    if word in ("first", "second") and value[1][0] == "pair":
        return value[1][2 if word == "first" else 3]
    return value


def read_back(value, binders):
    word = value[0]
    if word == "outer":
        return ("var", value[1] + binders)
    if word == "inner":
        return ("var", binders - 1 - value[1])
    if word == "name":
        return value
    parts = [word]
    for part in value[1:]:
        if callable(part):
            parts.append(read_back(part(("inner", binders)), binders + 1))
        else:
            parts.append(read_back(part, binders))
    return tuple(parts)


def normal_by_values(thing, book):
    """For things that come to an end whichever way they are reduced."""
    return read_back(value_of(thing, [], book), 0)
