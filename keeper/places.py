"""Places: the ways from a thing to the things within it."""

from keeper.errors import NoPlace
from keeper.things import binds_of, bounded, is_number, kids_of, rebuilt


def places_of(thing):
    places = [()]
    for number, kid in enumerate(kids_of(thing)):
        places.extend([(number,) + place for place in places_of(kid)])
    return places


def kid_at(thing, number):
    kids = kids_of(thing)
    if not is_number(number) or not 0 <= number < len(kids):
        raise NoPlace("the thing has no such place")
    return kids[number]


def at_place(thing, place):
    here = thing
    for number in place:
        here = kid_at(here, number)
    return here


def changed_at(thing, place, new):
    if len(place) == 0:
        return new
    kid = kid_at(thing, place[0])
    kids = kids_of(thing)
    kids[place[0]] = changed_at(kid, place[1:], new)
    return rebuilt(thing, kids)


def with_at(thing, place, new):
    return bounded(changed_at(thing, place, new))


def binders_at(thing, place):
    here = thing
    binders = 0
    for number in place:
        kid = kid_at(here, number)
        binders += binds_of(here)[number]
        here = kid
    return binders
