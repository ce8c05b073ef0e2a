"""Judging by another way: with names for all variables. What is too great is not asked here."""

from keeper.equality import alike
from keeper.errors import NoName, NotAll, NotSame, NotSome, NoVariable, Unlike
from tests.naming import Binder, named, numbered

NAT, NONE, ZERO = ("nat", None), ("none", None), ("zero", None)


def put(thing, table):
    """What the table tells for its binders is put in; all binders on the way are new ones."""
    if thing[0] == "bound":
        return table.get(thing[1], thing)
    if thing[0] in ("free", "name"):
        return thing
    new = Binder()
    table = dict(table)
    table[thing[1]] = ("bound", new)
    return (thing[0], new) + tuple(put(kid, table) for kid in thing[2:])


class Judge:
    def __init__(self, context, fuel, book):
        self.outer = []
        for number, kind in enumerate(context):
            self.outer.append(named(kind, [], lambda place, number=number: ("free", place + number + 1)))
        self.fuel, self.book = fuel, book

    def hold(self, term, kind, scope):
        own = self.kind(term, scope)
        binders = [binder for binder, its_kind in scope]
        if not alike(numbered(own, binders), numbered(kind, binders), self.fuel, self.book):
            raise Unlike("unlike")

    def let(self, kind, scope):
        word, binder, kids = kind[0], kind[1], kind[2:]
        if word in ("all", "some"):
            self.let(kids[0], scope)
            self.let(kids[1], [(binder, kids[0])] + scope)
        elif word == "same":
            self.let(kids[0], scope)
            self.hold(kids[1], kids[0], scope)
            self.hold(kids[2], kids[0], scope)

    def kind(self, term, scope):
        if term[0] == "bound":
            return [kind for binder, kind in scope if binder is term[1]][0]
        if term[0] == "free":
            if term[1] >= len(self.outer):
                raise NoVariable("no such one")
            return self.outer[term[1]]
        if term[0] == "name":
            if term[1] not in self.book:
                raise NoName("no such one")
            return named(self.book[term[1]][0], [], None)
        return getattr(self, "of_" + term[0])(term[1], term[2:], scope)

    def must_be(self, word, refusal, term, scope):
        kind = self.kind(term, scope)
        if kind[0] != word:
            raise refusal("another one")
        return kind

    def of_zero(self, binder, kids, scope):
        return NAT

    def of_next(self, binder, kids, scope):
        self.hold(kids[0], NAT, scope)
        return NAT

    def of_fun(self, binder, kids, scope):
        self.let(kids[0], scope)
        return ("all", binder, kids[0], self.kind(kids[1], [(binder, kids[0])] + scope))

    def of_app(self, binder, kids, scope):
        kind = self.must_be("all", NotAll, kids[0], scope)
        self.hold(kids[1], kind[2], scope)
        return put(kind[3], {kind[1]: kids[1]})

    def of_rec(self, binder, kids, scope):
        over, start, step, count = kids
        self.let(over, [(binder, NAT)] + scope)
        self.hold(start, put(over, {binder: ZERO}), scope)
        below, behind = Binder(), Binder()
        here, there = put(over, {binder: ("bound", below)}), put(over, {binder: ("next", None, ("bound", below))})
        self.hold(step, ("all", below, NAT, ("all", behind, here, there)), scope)
        self.hold(count, NAT, scope)
        return put(over, {binder: count})

    def of_like(self, binder, kids, scope):
        self.let(kids[0], scope)
        self.hold(kids[1], kids[0], scope)
        return ("same", None, kids[0], kids[1], kids[1])

    def of_carry(self, binder, kids, scope):
        over, start, shown = kids
        kind = self.must_be("same", NotSame, shown, scope)
        self.let(over, [(binder, kind[2])] + scope)
        self.hold(start, put(over, {binder: kind[3]}), scope)
        return put(over, {binder: kind[4]})

    def of_never(self, binder, kids, scope):
        self.let(kids[0], scope)
        self.hold(kids[1], NONE, scope)
        return kids[0]

    def of_pair(self, binder, kids, scope):
        kind, one, other = kids
        self.let(kind, scope)
        if kind[0] != "some":
            raise NotSome("another one")
        self.hold(one, kind[2], scope)
        self.hold(other, put(kind[3], {kind[1]: one}), scope)
        return kind

    def of_first(self, binder, kids, scope):
        return self.must_be("some", NotSome, kids[0], scope)[2]

    def of_second(self, binder, kids, scope):
        kind = self.must_be("some", NotSome, kids[0], scope)
        return put(kind[3], {kind[1]: ("first", None, kids[0])})


def kind_by_names(context, term, fuel, book):
    return numbered(Judge(context, fuel, book).kind(named(term, [], lambda number: ("free", number)), []), [])


def let_by_names(context, kind, fuel, book):
    Judge(context, fuel, book).let(named(kind, [], lambda number: ("free", number)), [])
    return True
