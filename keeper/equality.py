"""Equality: two things are equal where both reduce to one thing."""

from keeper.errors import KeeperError
from keeper.normal import normal, walked
from keeper.steps import first_step
from keeper.things import is_number, kids_of


def is_unlike(one, other):
    if one[0] != other[0]:
        return True
    return one[0] in ("var", "name") and one[1] != other[1]


def parting(one, other):
    if is_unlike(one, other):
        return ()
    gone = []
    for number, pair in enumerate(zip(kids_of(one), kids_of(other))):
        # In something too great one tuple may stand twice, and so again within it: there could be more
        # places than can ever be gone through.
        if pair in gone:
            continue
        place = parting(pair[0], pair[1])
        if place is not None:
            return (number,) + place
        gone.append(pair)
    return None


def compared(one, other, fuel, book):
    from_one = normal(one, fuel, book)
    from_other = normal(other, fuel, book)
    place = parting(from_one[0], from_other[0])
    return (from_one[0], from_other[0], from_one[1], from_other[1], place)


def alike(one, other, fuel, book):
    return compared(one, other, fuel, book)[4] is None


def is_end(thing, log, end, book):
    try:
        came = walked(thing, log, book)
    except KeeperError:
        return False
    return came == end and first_step(came, book) is None


def is_place(place, wanted):
    if place is None or wanted is None:
        return place is None and wanted is None
    # To Python a truth is like a number, here it is none.
    return place == wanted and all([is_number(number) for number in place])


def shows(one, other, told, book):
    if not is_end(one, told[2], told[0], book) or not is_end(other, told[3], told[1], book):
        return False
    return is_place(told[4], parting(told[0], told[1]))
