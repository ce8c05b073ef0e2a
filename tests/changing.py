"""What comes of a call, and things that are changed somewhere."""

from keeper.errors import KeeperError
from keeper.places import at_place, places_of, with_at
from tests.samples import KIND_WORDS


def outcome(function, *values):
    """What it gives, or the class it is refused with."""
    try:
        return function(*values)
    except KeeperError as refusal:
        return type(refusal)


def changed(chance, thing):
    """The thing with something from another place of it at one place, or the class Great."""
    places = places_of(thing)
    place = chance.choice(places)
    is_kind_there = at_place(thing, place)[0] in KIND_WORDS
    others = [other for other in places if (at_place(thing, other)[0] in KIND_WORDS) == is_kind_there]
    return outcome(with_at, thing, place, at_place(thing, chance.choice(others)))


def is_true(kind):
    """Point 24."""
    if kind[0] == "all":
        return not is_true(kind[1]) or is_true(kind[2])
    if kind[0] == "some":
        return is_true(kind[1]) and is_true(kind[2])
    return kind[0] != "none"
