"""Each function of the document's interface: its module, its arguments, and calls of it."""

from keeper.basics import basics
from keeper.books import added
from keeper.deriving import derived
from keeper.desk import answers
from keeper.equality import alike, compared, parting, shows
from keeper.judging import kind_at, kind_of, let_by
from keeper.looking import faults_of
from keeper.normal import normal, walked
from keeper.places import at_place, binders_at, places_of, with_at
from keeper.putting import free_in, lifted, put_in
from keeper.reading import read_kind, read_term
from keeper.showing import shown
from keeper.steps import rule_of, stepped, steps_of
from keeper.things import binds_of, depth_of, is_kind, is_term, kids_of, size_of, with_kids
from keeper.words import words_of
from tests.books import SOUND, at, number, plus
from tests.samples import NAT, V0, V1, ZERO, under

ARGUMENTS = (
    ("things", is_term, "thing"), ("things", is_kind, "thing"), ("things", kids_of, "thing"),
    ("things", binds_of, "thing"), ("things", with_kids, "thing kids"), ("things", size_of, "thing"),
    ("things", depth_of, "thing"),
    ("putting", free_in, "thing"), ("putting", lifted, "thing by low"), ("putting", put_in, "thing other at"),
    ("places", places_of, "thing"), ("places", at_place, "thing place"), ("places", with_at, "thing place new"),
    ("places", binders_at, "thing place"),
    ("steps", rule_of, "thing book"), ("steps", stepped, "thing place book"), ("steps", steps_of, "thing book"),
    ("normal", normal, "thing fuel book"), ("normal", walked, "thing log book"),
    ("equality", parting, "one other"), ("equality", compared, "one other fuel book"),
    ("equality", alike, "one other fuel book"), ("equality", shows, "one other told book"),
    ("judging", kind_at, "context number"), ("judging", kind_of, "context term fuel book"),
    ("judging", let_by, "context kind fuel book"),
    ("deriving", derived, "context term fuel book"), ("looking", faults_of, "rows book"),
    ("words", words_of, "text"), ("reading", read_term, "text names"), ("reading", read_kind, "text names"),
    ("showing", shown, "thing names"),
    ("books", added, "book name kind term fuel"), ("basics", basics, ""), ("desk", answers, "text fuel"),
)

TERM = under(1, ("app", V0, at(under(1, ("next", V0)), plus(V1, ("name", "two")))))
SAME = ("same", NAT, ("name", "four"), number(4))
CONTEXT = [SAME, ("all", NAT, NAT), NAT]
LIKE = ("like", NAT, ("name", "four"))
LOG = [((1, 1), "fun"), ((1, 1, 0, 1), "name")]


def calls():
    """A function and what it is handed, each time made anew."""
    book = dict(SOUND)
    context = list(CONTEXT)
    return [
        (is_term, [TERM]), (is_kind, [SAME]), (kids_of, [SAME]), (binds_of, [TERM]),
        (with_kids, [SAME, [NAT, ZERO, ZERO]]), (size_of, [TERM]), (depth_of, [TERM]),
        (free_in, [TERM]), (lifted, [TERM, 2, 0]), (put_in, [TERM, LIKE, 0]),
        (places_of, [TERM]), (at_place, [TERM, (1, 1)]), (with_at, [TERM, (1, 0), ZERO]), (binders_at, [TERM, (1, 0)]),
        (rule_of, [("name", "two"), book]), (stepped, [TERM, (1, 1), book]), (steps_of, [TERM, book]),
        (normal, [TERM, 99, book]), (walked, [TERM, list(LOG), book]),
        (parting, [TERM, LIKE]), (compared, [LIKE, ("like", NAT, number(4)), 99, book]), (alike, [SAME, NAT, 99, book]),
        (shows, [LIKE, TERM, tuple(compared(LIKE, TERM, 99, book)), book]),
        (kind_at, [context, 0]), (kind_of, [context, ("next", ("var", 2)), 9, book]),
        (let_by, [context, ("same", NAT, ("var", 2), ZERO), 9, book]),
        (derived, [context, ("app", ("fun", ("same", NAT, number(4), number(4)), ZERO), V0), 99, book]),
        (faults_of, [derived([], LIKE, 99, book) + [("zero", (), ZERO, SAME, (), ())], book]),
        (words_of, ["kind (next 0)"]), (read_term, ["(app x (fun y nat plus))", ["z", "x"]]),
        (read_kind, ["(same nat x y)", ["y", "x"]]), (shown, [("fun", NAT, ("app", V0, V1)), ["x"]]),
        (added, [book, "sum", SAME, LIKE, 99]), (basics, []), (answers, ["define two nat 2\nkind two\nkind one", 9]),
    ]
