"""Judging: the kind of a term, and whether a kind is let by."""

from keeper.equality import alike
from keeper.errors import NoName, NotAll, NotSame, NotSome, NoVariable, Unlike
from keeper.putting import lifted, put_in, raised, with_free
from keeper.things import bounded, is_number

NAT = ("nat",)
NONE = ("none",)
ZERO = ("zero",)


def kind_at(context, number):
    if not is_number(number) or not 0 <= number < len(context):
        raise NoVariable("the context has no such variable")
    return lifted(context[number], number + 1, 0)


def kind_told(name, book):
    if name not in book:
        raise NoName("the book has no such name")
    return book[name][0]


def need_all(kind):
    if kind[0] != "all":
        raise NotAll("what is taken at something is of no kind all")


def need_same(kind):
    if kind[0] != "same":
        raise NotSame("what is carried along is of no kind same")


def need_some(kind):
    if kind[0] != "some":
        raise NotSome("a pair, or what a part is taken of, is of no kind some")


def put_ahead(kind, context):
    return [kind] + list(context)


def hold_to(context, term, kind, fuel, book):
    own = kind_of(context, term, fuel, book)
    if not alike(own, kind, fuel, book):
        raise Unlike("a term is of another kind than is due")


def let_by(context, kind, fuel, book):
    if kind[0] == "all" or kind[0] == "some":
        let_by(context, kind[1], fuel, book)
        let_by(put_ahead(kind[1], context), kind[2], fuel, book)
    if kind[0] == "same":
        let_by(context, kind[1], fuel, book)
        hold_to(context, kind[2], kind[1], fuel, book)
        hold_to(context, kind[3], kind[1], fuel, book)
    return True


def kind_of_var(context, term, fuel, book):
    return kind_at(context, term[1])


def kind_of_zero(context, term, fuel, book):
    return NAT


def kind_of_next(context, term, fuel, book):
    hold_to(context, term[1], NAT, fuel, book)
    return NAT


def kind_of_name(context, term, fuel, book):
    return kind_told(term[1], book)


def kind_of_fun(context, term, fuel, book):
    let_by(context, term[1], fuel, book)
    kind = kind_of(put_ahead(term[1], context), term[2], fuel, book)
    return bounded(("all", term[1], kind))


def kind_of_app(context, term, fuel, book):
    kind = kind_of(context, term[1], fuel, book)
    need_all(kind)
    hold_to(context, term[2], kind[1], fuel, book)
    return put_in(kind[2], term[2], 0)


def step_kind(kind):
    # Lifting and putting in by turns would refuse what only on the way has too great a variable.
    def change(number, binders):
        if number == 0:
            return raised(("next", ("var", 1)), binders, 0)
        return ("var", number + 1 + binders)

    return bounded(("all", NAT, ("all", kind, with_free(kind, 0, change))))


def kind_of_rec(context, term, fuel, book):
    let_by(put_ahead(NAT, context), term[1], fuel, book)
    hold_to(context, term[2], put_in(term[1], ZERO, 0), fuel, book)
    hold_to(context, term[3], step_kind(term[1]), fuel, book)
    hold_to(context, term[4], NAT, fuel, book)
    return put_in(term[1], term[4], 0)


def kind_of_like(context, term, fuel, book):
    let_by(context, term[1], fuel, book)
    hold_to(context, term[2], term[1], fuel, book)
    return bounded(("same", term[1], term[2], term[2]))


def kind_of_carry(context, term, fuel, book):
    kind = kind_of(context, term[3], fuel, book)
    need_same(kind)
    let_by(put_ahead(kind[1], context), term[1], fuel, book)
    hold_to(context, term[2], put_in(term[1], kind[2], 0), fuel, book)
    return put_in(term[1], kind[3], 0)


def kind_of_never(context, term, fuel, book):
    let_by(context, term[1], fuel, book)
    hold_to(context, term[2], NONE, fuel, book)
    return term[1]


def kind_of_pair(context, term, fuel, book):
    kind = term[1]
    let_by(context, kind, fuel, book)
    need_some(kind)
    hold_to(context, term[2], kind[1], fuel, book)
    hold_to(context, term[3], put_in(kind[2], term[2], 0), fuel, book)
    return kind


def kind_of_whole(context, term, fuel, book):
    kind = kind_of(context, term[1], fuel, book)
    need_some(kind)
    return kind


def kind_of_first(context, term, fuel, book):
    return kind_of_whole(context, term, fuel, book)[1]


def kind_of_second(context, term, fuel, book):
    kind = kind_of_whole(context, term, fuel, book)
    return put_in(kind[2], ("first", term[1]), 0)


FORMS = {
    "var": kind_of_var,
    "fun": kind_of_fun,
    "app": kind_of_app,
    "zero": kind_of_zero,
    "next": kind_of_next,
    "rec": kind_of_rec,
    "like": kind_of_like,
    "carry": kind_of_carry,
    "never": kind_of_never,
    "pair": kind_of_pair,
    "first": kind_of_first,
    "second": kind_of_second,
    "name": kind_of_name,
}


def kind_of(context, term, fuel, book):
    form = FORMS[term[0]]
    return form(context, term, fuel, book)
