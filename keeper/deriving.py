"""Derivations: rows that tell, each by a rule and by rows ahead of it, why a term is of its kind."""

from keeper.equality import compared
from keeper.errors import Great, Unlike
from keeper.judging import kind_of
from keeper.rules import LEADS, ahead_of, due_of

MOST_ROWS = 3000


# While it is made a derivation is in no order: that the kind of a turn is let by is told later, and only then the turn
# has that row among its ups. Else one turn would be made within another one, deeper than calls may go.
class Draft:
    def __init__(self, fuel, book):
        self.fuel = fuel
        self.book = book
        self.rows = []
        self.own = {}
        self.turns = {}
        self.unfinished = []

    def put_down(self, row):
        if len(self.rows) >= MOST_ROWS:
            raise Great("a derivation has too many rows")
        self.rows.append(row)
        return len(self.rows) - 1

    def own_row(self, context, thing):
        key = (context, thing)
        if key not in self.own:
            due = due_of(context, thing, self.lead_kind(context, thing), self.book)
            ups = [self.row_telling(around, part, kind) for around, part, kind in due[1]]
            self.own[key] = self.put_down((thing[0], context, thing, due[0], ups, ()))
        return self.own[key]

    def lead_kind(self, context, thing):
        if thing[0] not in LEADS:
            return None
        part = thing[LEADS[thing[0]][1]]
        around = ahead_of(thing[1], context) if thing[0] == "fun" else context
        return self.rows[self.own_row(around, part)][3]

    def row_telling(self, context, thing, kind):
        own = self.own_row(context, thing)
        return own if self.rows[own][3] == kind else self.turned(own, kind)

    def turned(self, number, kind):
        row = self.rows[number]
        key = (number, kind)
        if key not in self.turns:
            shown = compared(row[3], kind, self.fuel, self.book)
            if shown[4] is not None:
                raise Unlike("a term is of another kind than is due")
            logs = (tuple(shown[2]), tuple(shown[3]))
            self.turns[key] = self.put_down(("turn", row[1], row[2], kind, [number], logs))
            self.unfinished.append(self.turns[key])
        return self.turns[key]

    def finish(self):
        while len(self.unfinished) > 0:
            row = self.rows[self.unfinished.pop()]
            row[4].append(self.own_row(row[1], row[3]))


def with_ups(row, places):
    return row[:4] + (tuple([places[up] for up in row[4]]),) + row[5:]


def in_order(rows, last):
    placed = []
    places = {}
    way = [last]
    while len(way) > 0:
        row = rows[way[-1]]
        waiting = [up for up in row[4] if up not in places]
        if len(waiting) == 0:
            places[way.pop()] = len(placed)
            placed.append(with_ups(row, places))
        else:
            way.append(waiting[0])
        # With a book that isn't sound rows may wait for one another: that would go on for ever.
        if len(way) > len(rows):
            raise Great("a derivation without end")
    return placed


def derived(context, term, fuel, book):
    # Asked first, so that what kind_of refuses is refused as there, whatever bound the rows would meet.
    kind_of(context, term, fuel, book)
    draft = Draft(fuel, book)
    last = draft.own_row(tuple(context), term)
    draft.finish()
    return in_order(draft.rows, last)
