"""Terms and kinds that are let by, made by chance but the same ones each time."""

import random

from keeper.equality import alike
from keeper.errors import Dry, Great
from keeper.judging import kind_at
from keeper.putting import lifted, put_in
from tests.samples import NAT, NONE, V0, ZERO

FUEL = 200


class Maker:
    def __init__(self, seed, book):
        self.chance = random.Random(seed)
        self.book = book

    def kind(self, context, depth):
        """A kind that is let by in the context."""
        word = self.chance.choice(("nat", "nat", "none", "all", "some", "same", "same")) if depth > 0 else "nat"
        if word in ("all", "some"):
            part = self.kind(context, depth - 1)
            return (word, part, self.kind([part] + context, depth - 1))
        if word == "same":
            part = self.kind(context, depth - 2)
            one = self.term(context, part, depth - 1)
            if one is None:
                return NAT
            other = self.term(context, part, depth - 1) if self.chance.random() < 0.3 else None
            return ("same", part, one, self.disguised(one if other is None else other, part))
        return (word,)

    def disguised(self, term, kind):
        """The same term, or one that reduces to it."""
        choice = self.chance.randrange(5)
        if choice == 0:
            return ("app", ("fun", NAT, lifted(term, 1, 0)), ZERO)
        if choice == 1:
            return ("app", ("fun", kind, V0), term)
        if choice == 2:
            return ("first", ("pair", ("some", kind, NAT), term, ZERO))
        return term

    def term(self, context, kind, depth):
        """A term of a kind that is alike to the one told, or None."""
        if depth > 0 and self.chance.random() < 0.5:
            made = self.round_about(context, kind, depth)
            if made is not None:
                return made
        found = self.at_hand(context, kind)
        if found and self.chance.random() < 0.6:
            return self.chance.choice(found)
        made = self.straight(context, kind, depth)
        if made is None and found:
            return self.chance.choice(found)
        return made

    def is_of(self, own, kind):
        return own[0] == kind[0] and alike(own, kind, FUEL, self.book)

    def at_hand(self, context, kind):
        found = []
        for number in range(len(context)):
            if self.is_of(kind_at(context, number), kind):
                found.append(("var", number))
            elif context[number] == NONE and self.chance.random() < 0.3:
                found.append(("never", kind, ("var", number)))
        for name in self.book:
            if self.is_of(self.book[name][0], kind):
                found.append(("name", name))
        return found

    def straight(self, context, kind, depth):
        if kind[0] == "nat":
            below = self.term(context, NAT, depth - 1) if depth > 0 else None
            return ZERO if below is None else ("next", below)
        if kind[0] == "all":
            body = self.term([kind[1]] + context, kind[2], depth - 1)
            return None if body is None else ("fun", kind[1], body)
        if kind[0] == "some":
            one = self.term(context, kind[1], depth - 1)
            other = None if one is None else self.term(context, put_in(kind[2], one, 0), depth - 1)
            return None if other is None else ("pair", kind, one, other)
        if kind[0] == "same" and alike(kind[2], kind[3], FUEL, self.book):
            return ("like", kind[1], kind[self.chance.choice((2, 3))])
        return None

    def round_about(self, context, kind, depth):
        ways = (self.by_fun, self.by_part, self.by_rec, self.by_carry)
        return self.chance.choice(ways)(context, kind, depth - 1)

    def by_fun(self, context, kind, depth):
        part = self.kind(context, depth - 1)
        value = self.term(context, part, depth - 1)
        body = None if value is None else self.term([part] + context, lifted(kind, 1, 0), depth)
        return None if body is None else ("app", ("fun", part, body), value)

    def by_part(self, context, kind, depth):
        one, other = self.term(context, kind, depth), self.term(context, NAT, depth)
        if one is None or other is None:
            return None
        if self.chance.random() < 0.5:
            return ("first", ("pair", ("some", kind, NAT), one, other))
        return ("second", ("pair", ("some", NAT, lifted(kind, 1, 0)), other, one))

    def by_rec(self, context, kind, depth):
        over = lifted(kind, 1, 0)
        start, count = self.term(context, kind, depth), self.term(context, NAT, depth)
        step = self.term([over, NAT] + context, lifted(kind, 2, 0), depth)
        if start is None or count is None or step is None:
            return None
        return ("rec", over, start, ("fun", NAT, ("fun", over, step)), count)

    def by_carry(self, context, kind, depth):
        part = self.kind(context, depth - 1)
        sides = self.term(context, part, depth - 1)
        start = None if sides is None else self.term(context, kind, depth)
        if start is None:
            return None
        for number in range(len(context)):
            if context[number][0] == "same" and self.chance.random() < 0.5:
                return ("carry", lifted(kind, 1, 0), start, ("var", number))
        return ("carry", lifted(kind, 1, 0), start, ("like", part, sides))


def context_of(maker, length, depth):
    context = []
    for count in range(length):
        context = [maker.kind(context, depth)] + context
    return context


def lawful(count, seed, book, depth=4):
    """So many tuples of a context, a kind let by in it, and a term whose kind is alike to it."""
    maker = Maker(seed, book)
    made = []
    while len(made) < count:
        try:
            context = context_of(maker, len(made) % 4, 2)
            kind = maker.kind(context, depth - 1)
            term = maker.term(context, kind, depth)
        except (Dry, Great):
            continue
        if term is not None and str(term).count("(") <= 120:
            made.append((context, kind, term))
    return made
