"""The rules of derivations: the kind that a row tells, and what the rows of its ups must tell."""

from keeper.judging import NAT, NONE, ZERO, kind_at, kind_told, need_all, need_same, need_some, step_kind
from keeper.putting import put_in
from keeper.things import bounded

# The lead is the one row of ups whose kind isn't known from the thing itself: by the word of the thing, its place
# among the ups, and the part of the thing that it tells of.
LEADS = {"fun": (1, 2), "app": (0, 1), "carry": (0, 3), "first": (0, 1), "second": (0, 1)}


def ahead_of(kind, context):
    return (kind,) + context


def due_at_leaf(context, thing, lead, book):
    return (None, [])


def due_at_bound(context, thing, lead, book):
    return (None, [(context, thing[1], None), (ahead_of(thing[1], context), thing[2], None)])


def due_at_same(context, thing, lead, book):
    kind = thing[1]
    return (None, [(context, kind, None), (context, thing[2], kind), (context, thing[3], kind)])


def due_at_var(context, thing, lead, book):
    return (kind_at(context, thing[1]), [])


def due_at_name(context, thing, lead, book):
    return (kind_told(thing[1], book), [])


def due_at_zero(context, thing, lead, book):
    return (NAT, [])


def due_at_next(context, thing, lead, book):
    return (NAT, [(context, thing[1], NAT)])


def due_at_fun(context, thing, lead, book):
    ups = [(context, thing[1], None), (ahead_of(thing[1], context), thing[2], lead)]
    return (bounded(("all", thing[1], lead)), ups)


def due_at_app(context, thing, lead, book):
    need_all(lead)
    ups = [(context, thing[1], lead), (context, thing[2], lead[1])]
    return (put_in(lead[2], thing[2], 0), ups)


def due_at_rec(context, thing, lead, book):
    kind = thing[1]
    ups = [
        (ahead_of(NAT, context), kind, None),
        (context, thing[2], put_in(kind, ZERO, 0)),
        (context, thing[3], step_kind(kind)),
        (context, thing[4], NAT),
    ]
    return (put_in(kind, thing[4], 0), ups)


def due_at_like(context, thing, lead, book):
    ups = [(context, thing[1], None), (context, thing[2], thing[1])]
    return (bounded(("same", thing[1], thing[2], thing[2])), ups)


def due_at_carry(context, thing, lead, book):
    need_same(lead)
    kind = thing[1]
    ups = [
        (context, thing[3], lead),
        (ahead_of(lead[1], context), kind, None),
        (context, thing[2], put_in(kind, lead[2], 0)),
    ]
    return (put_in(kind, lead[3], 0), ups)


def due_at_never(context, thing, lead, book):
    return (thing[1], [(context, thing[1], None), (context, thing[2], NONE)])


def due_at_pair(context, thing, lead, book):
    kind = thing[1]
    need_some(kind)
    ups = [
        (context, kind, None),
        (context, thing[2], kind[1]),
        (context, thing[3], put_in(kind[2], thing[2], 0)),
    ]
    return (kind, ups)


def due_at_first(context, thing, lead, book):
    need_some(lead)
    return (lead[1], [(context, thing[1], lead)])


def due_at_second(context, thing, lead, book):
    need_some(lead)
    return (put_in(lead[2], ("first", thing[1]), 0), [(context, thing[1], lead)])


DUE = {
    "nat": due_at_leaf,
    "none": due_at_leaf,
    "all": due_at_bound,
    "some": due_at_bound,
    "same": due_at_same,
    "var": due_at_var,
    "fun": due_at_fun,
    "app": due_at_app,
    "zero": due_at_zero,
    "next": due_at_next,
    "rec": due_at_rec,
    "like": due_at_like,
    "carry": due_at_carry,
    "never": due_at_never,
    "pair": due_at_pair,
    "first": due_at_first,
    "second": due_at_second,
    "name": due_at_name,
}


# Gives the kind (None where the thing is one), and of each row of ups, in order, its context, thing and kind.
def due_of(context, thing, lead, book):
    due = DUE[thing[0]]
    return due(context, thing, lead, book)
