"""Free variables by another way: with names for all variables, so that no number is ever shifted."""

SECOND = ("all", "some", "fun")
FIRST = ("rec", "carry")


class Binder:
    """Each one is a name of its own."""


def named(thing, around, free):
    """The thing with `free(number)` for each free variable, and a binder for each bound one."""
    word = thing[0]
    if word == "var":
        number = thing[1]
        return ("bound", around[number]) if number < len(around) else free(number - len(around))
    if word == "name":
        return thing
    binder = Binder()
    parts = [word, binder]
    for number, kid in enumerate(thing[1:]):
        bound = (word in SECOND and number == 1) or (word in FIRST and number == 0)
        parts.append(named(kid, [binder] + around if bound else around, free))
    return tuple(parts)


def numbered(thing, around):
    """Back again: `("free", number)` stands for a variable from without."""
    word = thing[0]
    if word == "bound":
        return ("var", around.index(thing[1]))
    if word == "free":
        return ("var", thing[1] + len(around))
    if word == "name":
        return thing
    parts = [word]
    for number, kid in enumerate(thing[2:]):
        bound = (word in SECOND and number == 1) or (word in FIRST and number == 0)
        parts.append(numbered(kid, [thing[1]] + around if bound else around))
    return tuple(parts)


def free_by_names(thing):
    found = []
    named(thing, [], lambda number: found.append(number) or ("free", number))
    return sorted(set(found))


def lifted_by_names(thing, by, low):
    return numbered(named(thing, [], lambda number: ("free", number + by if number >= low else number)), [])


def put_in_by_names(thing, other, at):
    def free(number):
        if number == at:
            return named(other, [], lambda outer: ("free", outer))
        return ("free", number - 1 if number > at else number)

    return numbered(named(thing, [], free), [])
