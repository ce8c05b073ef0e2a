"""Looking at rows by another way: point 21's table by hand, with names for all variables (see naming.py)."""

from tests.naming import lifted_by_names, named, numbered, put_in_by_names
from tests.samples import NAT, NONE, ZERO

KIND_WORDS = ("nat", "none", "all", "some", "same")
PARTS = {"app": 1, "rec": 4, "carry": 3, "first": 1, "second": 1}


class Fault(Exception):
    """A row doesn't follow."""


def need(truth):
    if not truth:
        raise Fault


def is_great(thing):
    """Also for what has far more knots than it may have."""
    rows = [thing]
    depth = knots = 0
    while rows and knots <= 600 and depth <= 40:
        depth += 1
        knots += len(rows)
        if any(row[0] == "var" and row[1] > 99 for row in rows):
            return True
        rows = [kid for row in rows for kid in row[1:] if isinstance(kid, tuple)]
    return knots > 600 or depth > 40


def made(thing):
    need(not is_great(thing))
    return thing


def put(thing, other):
    return made(put_in_by_names(thing, other, 0))


def step_kind_by_names(over):
    def free(number):
        return ("next", None, ("free", 1)) if number == 0 else ("free", number + 1)

    return made(("all", NAT, ("all", over, numbered(named(over, [], free), []))))


def after(thing, rule, book):
    part = thing[PARTS[thing[0]]] if thing[0] in PARTS else None
    if rule == "name":
        need(thing[0] == "name" and thing[1] in book)
        return book[thing[1]][1]
    if rule == "fun":
        need(thing[0] == "app" and part[0] == "fun")
        return put(part[2], thing[2])
    if rule == "zero":
        need(thing[0] == "rec" and part == ZERO)
        return thing[2]
    if rule == "next":
        need(thing[0] == "rec" and part[0] == "next")
        return ("app", ("app", thing[3], part[1]), ("rec", thing[1], thing[2], thing[3], part[1]))
    if rule == "like":
        need(thing[0] == "carry" and part[0] == "like")
        return thing[2]
    need(rule in ("first", "second") and thing[0] == rule and part[0] == "pair")
    return part[2 if rule == "first" else 3]


def step_at(thing, place, rule, book):
    if place == ():
        return after(thing, rule, book)
    need(thing[0] not in ("var", "name") and 0 <= place[0] < len(thing) - 1)
    number = place[0] + 1
    return thing[:number] + (step_at(thing[number], place[1:], rule, book),) + thing[number + 1:]


def walk(thing, log, book):
    for place, rule in log:
        thing = made(step_at(thing, place, rule, book))
    return thing


class Look:
    def __init__(self, rows, number, book):
        self.rule, self.context, self.thing, self.kind, ups, self.logs = rows[number]
        for up in ups:
            need(0 <= up < number)
        self.ups = [rows[up] for up in ups]
        self.book = book

    def count(self, count):
        need(len(self.ups) == count)

    def up(self, number, thing, ahead=None):
        """The kind that this one of the ups tells of the thing."""
        row = self.ups[number]
        need(row[1] == (self.context if ahead is None else (ahead,) + self.context))
        need(row[2] == thing)
        return row[3]

    def let(self, number, kind, ahead=None):
        need(self.up(number, kind, ahead) is None)

    def of(self, number, term, kind):
        need(self.up(number, term) == kind)

    def lead(self, number, term, word, ahead=None):
        kind = self.up(number, term, ahead)
        need(kind is not None and (word is None or kind[0] == word))
        return kind

    def look(self):
        need((self.kind is None) == (self.thing[0] in KIND_WORDS))
        need(self.kind is None or self.kind[0] in KIND_WORDS)
        if self.rule == "turn":
            return self.look_turn()
        need(self.rule == self.thing[0] and self.logs == ())
        told = getattr(self, "look_" + self.rule)(*self.thing[1:])
        need(self.kind == told)

    def look_turn(self):
        self.count(2)
        need(self.thing[0] not in KIND_WORDS)
        kind = self.up(0, self.thing)
        need(kind is not None)
        self.let(1, self.kind)
        need(len(self.logs) == 2)
        need(walk(kind, self.logs[0], self.book) == walk(self.kind, self.logs[1], self.book))

    def look_nat(self):
        self.count(0)

    look_none = look_nat

    def look_all(self, part, other):
        self.count(2)
        self.let(0, part)
        self.let(1, other, part)

    look_some = look_all

    def look_same(self, kind, one, other):
        self.count(3)
        self.let(0, kind)
        self.of(1, one, kind)
        self.of(2, other, kind)

    def look_var(self, number):
        self.count(0)
        need(number < len(self.context))
        return made(lifted_by_names(self.context[number], number + 1, 0))

    def look_name(self, name):
        self.count(0)
        need(name in self.book)
        return self.book[name][0]

    def look_zero(self):
        self.count(0)
        return NAT

    def look_next(self, term):
        self.count(1)
        self.of(0, term, NAT)
        return NAT

    def look_fun(self, kind, body):
        self.count(2)
        self.let(0, kind)
        return made(("all", kind, self.lead(1, body, None, kind)))

    def look_app(self, function, value):
        self.count(2)
        kind = self.lead(0, function, "all")
        self.of(1, value, kind[1])
        return put(kind[2], value)

    def look_rec(self, over, start, step, number):
        self.count(4)
        self.let(0, over, NAT)
        self.of(1, start, put(over, ZERO))
        self.of(2, step, step_kind_by_names(over))
        self.of(3, number, NAT)
        return put(over, number)

    def look_like(self, kind, term):
        self.count(2)
        self.let(0, kind)
        self.of(1, term, kind)
        return made(("same", kind, term, term))

    def look_carry(self, over, start, shown):
        self.count(3)
        kind = self.lead(0, shown, "same")
        self.let(1, over, kind[1])
        self.of(2, start, put(over, kind[2]))
        return put(over, kind[3])

    def look_never(self, kind, term):
        self.count(2)
        self.let(0, kind)
        self.of(1, term, NONE)
        return kind

    def look_pair(self, kind, one, other):
        self.count(3)
        need(kind[0] == "some")
        self.let(0, kind)
        self.of(1, one, kind[1])
        self.of(2, other, put(kind[2], one))
        return kind

    def look_first(self, term):
        self.count(1)
        return self.lead(0, term, "some")[1]

    def look_second(self, term):
        self.count(1)
        return put(self.lead(0, term, "some")[2], ("first", term))


def faults_by_table(rows, book):
    faults = []
    for number in range(len(rows)):
        try:
            Look(rows, number, book).look()
        except Fault:
            faults.append(number)
    return faults
