"""Free variables: which there are, lifting them, and putting a term in for one."""

from keeper.things import binds_of, bounded, kids_of, rebuilt


def numbers_free(thing, binders):
    if thing[0] == "var":
        return [thing[1] - binders] if thing[1] >= binders else []
    numbers = []
    for kid, bound in zip(kids_of(thing), binds_of(thing)):
        numbers.extend(numbers_free(kid, binders + bound))
    return numbers


def free_in(thing):
    return sorted(set(numbers_free(thing, 0)))


# `change` gives what comes for a free variable, of its number from without and the binders over it.
def with_free(thing, binders, change):
    if thing[0] == "var":
        return change(thing[1] - binders, binders) if thing[1] >= binders else thing
    kids = [with_free(kid, binders + bound, change) for kid, bound in zip(kids_of(thing), binds_of(thing))]
    return rebuilt(thing, kids)


def raised(thing, by, low):
    def change(number, binders):
        return ("var", number + binders + (by if number >= low else 0))

    return with_free(thing, 0, change)


def lifted(thing, by, low):
    return bounded(raised(thing, by, low))


def put_in(thing, other, at):
    def change(number, binders):
        if number == at:
            return raised(other, binders, 0)
        return ("var", number + binders - (1 if number > at else 0))

    return bounded(with_free(thing, 0, change))
