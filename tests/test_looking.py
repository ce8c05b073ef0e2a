import copy
import random
import unittest

from keeper.deriving import derived
from keeper.looking import faults_of
from tests.books import PLUS_KIND, SOUND, WILD, number
from tests.lawful import lawful
from tests.looking_by_table import faults_by_table
from tests.rows import (
    CONTEXT, DERIVATIONS, LIKE, LIKE_ROW, NAT_ROW, ONE, RULES, SOME, TURN_LOGS, TURNED, TWO, WITH_NAT, ZERO_ROW, same,
)
from tests.samples import NAT, NONE, V0, V1, V2, ZERO, deep, deep_kind, var, wide, wide_kind

FIELDS = ("rule", "context", "thing", "kind", "ups", "logs")
LEAVES = ("nat", "none", "zero", "name")
KIND_WORDS = ("nat", "none", "all", "some", "same")
WRONG_KINDS = (
    None, NAT, NONE, SOME, ("all", NAT, NAT), same(ZERO, ZERO), same(V0, V0), same(TWO, TWO), same(TWO, number(2)),
    ("all", NAT, same(V0, V0)), ("all", NAT, same(V0, V1)), same(("app", ("fun", NAT, V0), ZERO), ZERO),
    ZERO, V0, LIKE, ("name", "two"),
)


def with_last(rows, **changes):
    row = list(rows[-1])
    for field, value in changes.items():
        row[FIELDS.index(field)] = value
    return rows[:-1] + [tuple(row)]


def kids_changed(thing):
    """Things that begin with the same word, each with another one at one place."""
    if thing[0] == "var":
        return [var(other) for other in (0, 1, 2, 3, 4, 5, 98, 99) if other != thing[1]]
    if thing[0] == "name":
        return [("name", other) for other in ("two", "fact", "nowhere")]
    others = []
    for place in range(1, len(thing)):
        kinds = (NAT, NONE, SOME, same(ZERO, ONE), ("all", NAT, NONE))
        terms = (ZERO, V0, V1, ("next", thing[place]), ("name", "plus"))
        for other in kinds if thing[place][0] in KIND_WORDS else terms:
            if other != thing[place]:
                others.append(thing[:place] + (other,) + thing[place + 1:])
    return others


class LookingTest(unittest.TestCase):
    """Points 21 and 23."""

    def assert_faults(self, faults, rows, book=SOUND):
        self.assertEqual(faults_of(rows, book), faults, rows[-1:])
        self.assertEqual(faults_by_table(rows, book), faults, rows[-1:])

    def assert_wrong(self, rows, book=SOUND):
        """The last row, and it alone."""
        self.assert_faults([len(rows) - 1], rows, book)


class FollowingTest(LookingTest):
    def test_each_rule(self):
        self.assertEqual(sorted(DERIVATIONS), sorted(RULES))
        for rule in RULES:
            self.assertEqual(DERIVATIONS[rule][-1][0], rule)
            self.assert_faults([], DERIVATIONS[rule])

    def test_no_rows_at_all(self):
        self.assertEqual(faults_of([], SOUND), [])
        self.assertEqual(faults_of([], {}), [])

    def test_in_the_empty_context(self):
        empty = [
            ("nat", (), NAT, None, (), ()),
            ("none", (), NONE, None, (), ()),
            ("zero", (), ZERO, NAT, (), ()),
            ("next", (), ONE, NAT, (2,), ()),
            ("same", (), same(ZERO, ONE), None, (0, 2, 3), ()),
            ("like", (), LIKE, same(ZERO, ZERO), (0, 2), ()),
            ("name", (), TWO, NAT, (), ()),
            ("var", (NAT,), V0, NAT, (), ()),
            ("fun", (), ("fun", NAT, V0), ("all", NAT, NAT), (0, 7), ()),
            ("app", (), ("app", ("fun", NAT, V0), TWO), NAT, (8, 6), ()),
            ("nat", (NAT,), NAT, None, (), ()),
            ("some", (), SOME, None, (0, 10), ()),
            ("pair", (), ("pair", SOME, ZERO, ONE), SOME, (11, 2, 3), ()),
            ("first", (), ("first", ("pair", SOME, ZERO, ONE)), NAT, (12,), ()),
            ("second", (), ("second", ("pair", SOME, ZERO, ONE)), NAT, (12,), ()),
            ("carry", (), ("carry", NAT, TWO, LIKE), NAT, (5, 10, 6), ()),
            ("turn", (), TWO, NAT, (6, 0), ((), ())),
        ]
        self.assert_faults([], empty)

    def test_rows_behind_others(self):
        rows = []
        for rule in RULES:
            begin = len(rows)
            for row in DERIVATIONS[rule]:
                rows.append(row[:4] + (tuple(up + begin for up in row[4]), row[5]))
        self.assert_faults([], rows)
        moved = [row[:4] + (tuple(up + 1 for up in row[4]), row[5]) for row in DERIVATIONS["rec"]]
        self.assert_faults([], [NAT_ROW] + moved)

    def test_several_faults_rising(self):
        wrong = ("zero", CONTEXT, ZERO, NONE, (), ())
        self.assert_faults([0, 2, 3], [wrong, NAT_ROW, wrong, wrong, ZERO_ROW])
        self.assert_faults([1], [NAT_ROW, ("nat", CONTEXT, NAT, NAT, (), ())])

    def test_a_row_follows_though_the_rows_of_its_ups_do_not(self):
        rows = [("var", CONTEXT, V2, NAT, (), ()), ("next", CONTEXT, ("next", V2), NAT, (0,), ())]
        self.assert_faults([0], rows)
        rows = [("nat", (), NONE, None, (), ()), ("zero", (), LIKE, NONE, (), ()),
                ("same", (), ("same", NONE, LIKE, LIKE), None, (0, 1, 1), ())]
        self.assert_faults([0, 1], rows)

    def test_the_same_row_again_and_again(self):
        self.assert_faults([], [ZERO_ROW] * 50 + [NAT_ROW] * 50 + [("like",) + LIKE_ROW[1:4] + ((99, 0), ())])


class ChangedTest(LookingTest):
    """In each rule one thing of the last row is changed, and the row doesn't follow any more."""

    def test_the_rule(self):
        for rule in RULES:
            rows = DERIVATIONS[rule]
            for other in RULES + ("", " ", "nats", "Nat", "NAT", "turns", "nowhere", "let", "kind", "fun "):
                if other != rule:
                    self.assert_wrong(with_last(rows, rule=other))

    def test_the_context(self):
        for rule in RULES:
            rows = DERIVATIONS[rule]
            for other in (CONTEXT + (NAT,), (NAT,) + CONTEXT, CONTEXT[:-1], CONTEXT[1:], (), (NAT,),
                          (NAT,) + CONTEXT[1:], CONTEXT[:-1] + (NONE,)):
                changed = with_last(rows, context=other)
                if rule in LEAVES:
                    self.assert_faults([], changed)
                elif rule != "var":
                    self.assert_wrong(changed)
        for other in ((NAT,) + CONTEXT, CONTEXT[1:], (), (NAT,), CONTEXT[:2], CONTEXT[:2] + (NAT,)):
            self.assert_wrong(with_last(DERIVATIONS["var"], context=other))

    def test_the_context_of_a_row_of_ups(self):
        for rule in RULES:
            rows = DERIVATIONS[rule]
            for up in sorted(set(rows[-1][4])):
                row = rows[up]
                for other in (row[1] + (NAT,), row[1][1:], (NAT,) + row[1], ()):
                    found = faults_of(rows[:up] + [row[:1] + (other,) + row[2:]] + rows[up + 1:], SOUND)
                    self.assertIn(len(rows) - 1, found, (rule, up))

    def test_the_kind_ahead(self):
        ahead = {"all": 4, "some": 4, "fun": 3, "rec": 4, "carry": 5}
        for rule, up in ahead.items():
            rows = DERIVATIONS[rule]
            row = rows[up]
            self.assertEqual(row[1], WITH_NAT)
            for other in (NONE, SOME, same(ZERO, ZERO)):
                changed = rows[:up] + [row[:1] + ((other,) + CONTEXT,) + row[2:]] + rows[up + 1:]
                self.assertIn(len(rows) - 1, faults_of(changed, SOUND), rule)

    def test_the_thing(self):
        for rule in RULES:
            rows = DERIVATIONS[rule]
            for other in kids_changed(rows[-1][2]):
                self.assert_wrong(with_last(rows, thing=other))
            for other in (NAT, NONE, ZERO, V0, LIKE, SOME, same(ZERO, ZERO), ("next", ZERO)):
                if other != rows[-1][2]:
                    self.assert_wrong(with_last(rows, thing=other))

    def test_the_kind(self):
        for rule in RULES:
            rows = DERIVATIONS[rule]
            for other in WRONG_KINDS:
                if other != rows[-1][3]:
                    self.assert_wrong(with_last(rows, kind=other))

    def test_kinds_that_are_alike_but_not_the_very_one(self):
        alike_to_nought = ("app", ("fun", NAT, V0), ZERO)
        rows = DERIVATIONS["like"]
        self.assert_wrong(with_last(rows, kind=same(alike_to_nought, ZERO)))
        rows = rows[:2] + [("like", CONTEXT, LIKE, same(ZERO, ZERO), (0, 1), ()),
                           ("nat", (same(ZERO, ZERO),) + CONTEXT, NAT, None, (), ()),
                           ("same", CONTEXT, same(ZERO, ZERO), None, (0, 1, 1), ()),
                           ("same", CONTEXT, same(alike_to_nought, ZERO), None, (0, 1, 1), ())]
        kind = ("some", same(alike_to_nought, ZERO), NAT)
        rows = rows + [("some", CONTEXT, kind, None, (5, 3), ()),
                       ("pair", CONTEXT, ("pair", kind, LIKE, ZERO), kind, (6, 2, 1), ())]
        self.assertEqual(faults_of(rows, SOUND)[-1], len(rows) - 1)

    def test_the_kind_of_a_row_of_ups(self):
        for rule in RULES:
            rows = DERIVATIONS[rule]
            for up in sorted(set(rows[-1][4])):
                row = rows[up]
                for other in WRONG_KINDS:
                    if other == row[3] or (rule == "turn" and up == 6 and other == TURNED):
                        continue
                    changed = rows[:up] + [row[:3] + (other,) + row[4:]] + rows[up + 1:]
                    found = faults_of(changed, SOUND)
                    self.assertIn(len(rows) - 1, found, (rule, up, other))
                    self.assertEqual(found, faults_by_table(changed, SOUND))

    def test_a_kind_of_none_where_one_is_due_and_the_other_way_round(self):
        for rule in RULES:
            rows = DERIVATIONS[rule]
            self.assertEqual(rows[-1][3] is None, rule in KIND_WORDS)
            for other in [NAT, NONE, SOME] if rule in KIND_WORDS else [None]:
                self.assert_wrong(with_last(rows, kind=other))

    def test_logs_where_none_are_due(self):
        for rule in RULES[:-1]:
            rows = DERIVATIONS[rule]
            for logs in (((), ()), ((),), TURN_LOGS, ((((), "name"),), ()), ((), (), ())):
                self.assert_wrong(with_last(rows, logs=logs))


class UpsTest(LookingTest):
    def test_one_less_or_more(self):
        for rule in RULES:
            rows = DERIVATIONS[rule]
            ups = rows[-1][4]
            for place in range(len(ups)):
                self.assert_wrong(with_last(rows, ups=ups[:place] + ups[place + 1:]))
                self.assert_wrong(with_last(rows, ups=ups[:place] + ups[place:place + 1] + ups[place:]))
            if len(rows) > 1:
                for more in range(len(rows) - 1):
                    self.assert_wrong(with_last(rows, ups=ups + (more,)))
                    self.assert_wrong(with_last(rows, ups=(more,) + ups))
            if ups:
                self.assert_wrong(with_last(rows, ups=()))

    def test_leaves_with_ups(self):
        for rule in LEAVES + ("var",):
            row = DERIVATIONS[rule][-1]
            self.assert_faults([1], [NAT_ROW, row[:4] + ((0,), ())])

    def test_another_number(self):
        for rule in RULES:
            rows = DERIVATIONS[rule]
            ups = rows[-1][4]
            for place in range(len(ups)):
                for other in range(len(rows) - 1):
                    changed = with_last(rows, ups=ups[:place] + (other,) + ups[place + 1:])
                    if rows[other][1:4] == rows[ups[place]][1:4]:
                        self.assert_faults([], changed)
                    else:
                        self.assert_wrong(changed)

    def test_another_order(self):
        for rule in RULES:
            rows = DERIVATIONS[rule]
            ups = rows[-1][4]
            for place in range(1, len(ups)):
                swapped = ups[:place - 1] + (ups[place], ups[place - 1]) + ups[place + 1:]
                if rows[ups[place]][1:4] != rows[ups[place - 1]][1:4]:
                    self.assert_wrong(with_last(rows, ups=swapped))

    def test_that_are_not_there_or_not_ahead(self):
        for rule in RULES:
            rows = DERIVATIONS[rule]
            last = len(rows) - 1
            ups = rows[-1][4]
            for place in range(len(ups)):
                for other in (last, last + 1, last + 2, 10 ** 30, -1, -2, -len(rows), ups[place] - len(rows),
                              ups[place] - len(rows) - 1, -10 ** 30):
                    self.assert_wrong(with_last(rows, ups=ups[:place] + (other,) + ups[place + 1:]))

    def test_that_stand_behind(self):
        for rule in RULES:
            rows = DERIVATIONS[rule]
            last = len(rows) - 1
            ups = rows[-1][4]
            for place in range(len(ups)):
                wrong = with_last(rows, ups=ups[:place] + (last + 1,) + ups[place + 1:])
                self.assert_faults([last], wrong + [rows[ups[place]]])
                # To Python this would be the number of the last one of all rows.
                wrong = with_last(rows, ups=ups[:place] + (-1,) + ups[place + 1:])
                self.assert_faults([last], wrong + [rows[ups[place]]])

    def test_that_are_the_row_itself(self):
        # What such a row would tell is what it needs.
        for row in (
            ("turn", CONTEXT, ZERO, NAT, (0, 1), ((), ())),
            ("turn", CONTEXT, ("never", NONE, V0), NONE, (0, 0), ((), ())),
        ):
            self.assert_faults([0], [row, NAT_ROW])
        rows = [NAT_ROW, ("turn", CONTEXT, LIKE, NAT, (1, 0), ((), ()))]
        self.assert_faults([1], rows)
        self.assert_faults([1], [("none", (), NONE, None, (), ()),
                                 ("turn", (), ZERO, NONE, (2, 0), ((), ())),
                                 ("turn", (), ZERO, NONE, (1, 0), ((), ()))])

    def test_no_tuple(self):
        for ups in ([1], None, "1", 1):
            self.assertEqual(faults_of(with_last(DERIVATIONS["next"], ups=ups), SOUND), [2])
        for ups in (("1",), (None,), ((1,),)):
            self.assertEqual(faults_of(with_last(DERIVATIONS["next"], ups=ups), SOUND), [2])

    def test_truths_are_no_numbers(self):
        self.assertEqual(faults_of(with_last(DERIVATIONS["next"], ups=(True,)), SOUND), [2])
        self.assertEqual(faults_of(with_last(DERIVATIONS["like"], ups=(False, 1)), SOUND), [2])
        self.assertEqual(faults_of(with_last(DERIVATIONS["like"], ups=(0, True)), SOUND), [2])


class TurnTest(LookingTest):
    ROWS = DERIVATIONS["turn"]

    def with_logs(self, one, other):
        return with_last(self.ROWS, logs=(tuple(one), tuple(other)))

    def test_logs_that_lead_to_one_thing(self):
        one, other, third = ((1,), "name"), ((2,), "name"), ((1,), "name")
        for first, second in (
            ([one, other], [third]),
            ([other, one], [third]),
            ([other], []),
        ):
            self.assert_faults([], self.with_logs(first, second))

    def test_logs_that_lead_to_unlike_things(self):
        one, other = ((1,), "name"), ((2,), "name")
        for first, second in (([], []), ([one], []), ([one, other], []), ([], [one]), ([one], [one]), ([other], [one])):
            self.assert_wrong(self.with_logs(first, second))

    def test_logs_that_cannot_be_walked(self):
        one, other = TURN_LOGS
        for wrong in (
            ((1,), "fun"), ((1,), "names"), ((1,), ""), ((0,), "name"), ((), "name"), ((1, 0), "name"), ((3,), "name"),
            ((-1,), "name"), ((-2,), "name"), ((4,), "name"), ((1,) * 50, "name"), ((10 ** 30,), "name"),
        ):
            self.assert_wrong(self.with_logs((wrong,) + one[1:], other))
            self.assert_wrong(self.with_logs(one + (wrong,), other))
            self.assert_wrong(self.with_logs(one, (wrong,)))
            self.assert_wrong(self.with_logs(one, other + (wrong,)))
        # Behind the first step there is nothing left that steps there.
        self.assert_wrong(self.with_logs(one + one, other + other))

    def test_truths_are_no_numbers(self):
        self.assertEqual(faults_of(self.with_logs([((True,), "name"), ((2,), "name")], TURN_LOGS[1]), SOUND), [7])

    def test_not_two_logs(self):
        for logs in ((), (TURN_LOGS[0],), TURN_LOGS + ((),), ((),), ((), (), ())):
            self.assert_wrong(with_last(self.ROWS, logs=logs))
        trivial = [NAT_ROW, ZERO_ROW, ("turn", CONTEXT, ZERO, NAT, (1, 0), ((), ()))]
        self.assert_faults([], trivial)
        for logs in ((), ((),), ((), (), ())):
            self.assert_wrong(with_last(trivial, logs=logs))

    def test_what_is_no_log(self):
        one, other = TURN_LOGS
        for logs in (
            list(TURN_LOGS), None, (None, other), (one, None), (list(one), other), (one, list(other)), (0, other), (one, 0),
            (one, (((1,), "name", 0),)), (one, (((1,),),)), (one, ((1, "name"),)), (one, ("name",)), (one, ([(1,), "name"],)),
            (one, ((None, "name"),)), ((0,), other), (one, (((1,), None),)),
        ):
            self.assertEqual(faults_of(with_last(self.ROWS, logs=logs), SOUND), [7], logs)

    def test_each_rule_of_a_log(self):
        keep = ("fun", NAT, ("fun", NAT, V0))
        pair = ("pair", SOME, ZERO, ZERO)
        for rule, term in (
            ("fun", ("app", ("fun", NAT, V0), ZERO)), ("zero", ("rec", NAT, ZERO, keep, ZERO)),
            ("like", ("carry", NAT, ZERO, LIKE)), ("first", ("first", pair)), ("second", ("second", pair)),
            ("name", ("name", "nought")), ("next", ("rec", NAT, ZERO, keep, ONE)),
        ):
            book = dict(SOUND, nought=(NAT, ZERO))
            kind, due = same(term, ZERO), same(ZERO, ZERO)
            log = (((1,), rule),)
            if rule == "next":
                below = ("rec", NAT, ZERO, keep, ZERO)
                due = same(("app", ("app", keep, ZERO), below), ZERO)
            # That these are let by isn't told here: each row is looked at by itself.
            rows = [("var", (kind,), V0, kind, (), ()), ("same", (kind,), due, None, (), ()),
                    ("turn", (kind,), V0, due, (0, 1), (log, ()))]
            self.assert_faults([1], rows, book)
            rows[2] = ("turn", (kind,), V0, due, (0, 1), ((), log))
            self.assert_faults([1, 2], rows, book)
            for other in ("fun", "zero", "next", "like", "first", "second", "name"):
                if other != rule:
                    rows[2] = ("turn", (kind,), V0, due, (0, 1), ((((1,), other),), ()))
                    self.assert_faults([1, 2], rows, book)

    def test_the_other_way_round(self):
        kind, due = same(TWO, number(2)), same(number(2), number(2))
        rows = [("var", (kind,), V0, kind, (), ()), ("same", (kind,), due, None, (), ()),
                ("turn", (kind,), V0, due, (0, 1), ((((1,), "name"),), ()))]
        self.assert_faults([1], rows)
        rows = [("var", (due,), V0, due, (), ()), ("same", (due,), kind, None, (), ()),
                ("turn", (due,), V0, kind, (0, 1), ((), (((1,), "name"),)))]
        self.assert_faults([1], rows)

    def test_another_term_or_a_kind(self):
        self.assert_wrong(with_last(self.ROWS, thing=LIKE))
        # The row that is turned tells of a kind, with another kind or with none.
        for kind in (None, NAT, NONE):
            rows = [("nat", (), NAT, kind, (), ()), ("none", (), NONE, None, (), ()),
                    ("nat", (), NAT, None, (), ()), ("turn", (), NAT, NAT, (0, 2), ((), ())),
                    ("turn", (), NAT, NONE, (0, 1), ((), ())), ("turn", (), NAT, None, (0, 2), ((), ()))]
            self.assert_faults(([] if kind is None else [0]) + [3, 4, 5], rows)

    def test_a_kind_that_is_said_to_have_a_kind(self):
        kind = same(ZERO, ZERO)
        rows = [NAT_ROW, ("same", CONTEXT, kind, NAT, (), ()), ("turn", CONTEXT, kind, NAT, (1, 0), ((), ()))]
        self.assert_faults([1, 2], rows)

    def test_a_term_in_the_place_of_a_kind(self):
        rows = [("zero", (), ZERO, ZERO, (), ()), ("zero", (), ZERO, None, (), ()),
                ("turn", (), ZERO, ZERO, (0, 1), ((), ()))]
        self.assert_faults([0, 1, 2], rows)

    def test_what_is_turned_has_no_kind(self):
        rows = [("zero", (), ZERO, None, (), ()), ("nat", (), NAT, None, (), ()),
                ("turn", (), ZERO, NAT, (0, 1), ((), ())), ("turn", (), ZERO, None, (0, 1), ((), ()))]
        self.assert_faults([0, 2, 3], rows)

    def test_a_turn_of_a_turn(self):
        rows = self.ROWS + [
            ("same", CONTEXT, same(TWO, TWO), None, (0, 1, 1), ()),
            ("turn", CONTEXT, ("like", NAT, TWO), same(TWO, TWO), (7, 8), (((), (((2,), "name"),)))),
        ]
        self.assert_faults([], rows)

    def test_a_step_to_something_too_great(self):
        grow = same(("name", "grow"), ZERO)
        for count, faults in ((38, []), (39, [2])):
            log = tuple(((1,) + (0,) * step, "name") for step in range(count))
            rows = [("var", (grow,), V0, grow, (), ()), ("same", (grow,), grow, None, (), ()),
                    ("turn", (grow,), V0, grow, (0, 1), (log, log))]
            self.assert_faults([1] + faults, rows, WILD)


class GreatTest(LookingTest):
    """A row that would have something too great doesn't follow, and nothing is refused."""

    def test_fun(self):
        for kind, faults in ((wide_kind(598), []), (wide_kind(599), [1]), (deep_kind(39), []), (deep_kind(40), [1])):
            # The kind of row 0 is whatever it is; only of the last row it is asked.
            rows = [NAT_ROW, ("zero", WITH_NAT, ZERO, kind, (), ()),
                    ("fun", CONTEXT, ("fun", NAT, ZERO), ("all", NAT, kind), (0, 1), ())]
            self.assert_faults([1, 2] if faults else [1], rows)
            if faults:
                self.assert_faults([1, 2], with_last(rows, kind=NAT))

    def test_like(self):
        for term, is_fault in ((wide(299), False), (wide(300), True), (deep(39), False), (deep(40), True)):
            rows = [NAT_ROW, ("zero", CONTEXT, term, NAT, (), ()),
                    ("like", CONTEXT, ("like", NAT, term), same(term, term), (0, 1), ())]
            self.assert_faults([1, 2] if is_fault else [1], rows)

    def test_var(self):
        kind = same(var(97), ZERO)
        context = (NAT, kind)
        self.assert_faults([], [("var", context, V1, same(var(99), ZERO), (), ())])
        context = (NAT, NAT, kind)
        for told in (same(var(99), ZERO), same(var(100), ZERO), NAT, None):
            self.assert_faults([0], [("var", context, V2, told, (), ())])

    def test_app(self):
        kind = ("all", NAT, same(V0, V0))
        for knots, is_fault in ((299, False), (300, True)):
            term = wide(knots)
            rows = [("zero", (), ZERO, kind, (), ()), ("zero", (), term, NAT, (), ()),
                    ("app", (), ("app", ZERO, term), same(term, term), (0, 1), ())]
            self.assert_faults([0, 1, 2] if is_fault else [0, 1], rows)
            self.assert_faults([0, 1, 2], with_last(rows, kind=same(V0, V0)))

    def test_rec_carry_pair_and_second(self):
        big = wide(300)
        over = same(V0, V0)
        pair_kind = ("some", NAT, over)
        pair = ("pair", pair_kind, big, ZERO)
        shown = same(big, big)
        rows = [
            ("same", (NAT,), over, None, (), ()),
            ("zero", (), big, NAT, (), ()),
            ("zero", (), LIKE, same(ZERO, ZERO), (), ()),
            ("zero", (), V0, ("all", NAT, ("all", over, same(("next", V1), ("next", V1)))), (), ()),
            ("zero", (), V1, shown, (), ()),
            ("zero", (), pair, pair_kind, (), ()),
            ("some", (), pair_kind, None, (), ()),
            ("rec", (), ("rec", over, LIKE, V0, big), NAT, (0, 2, 3, 1), ()),
            ("carry", (), ("carry", over, ZERO, V1), NAT, (4, 0, 2), ()),
            ("pair", (), pair, pair_kind, (6, 1, 2), ()),
            ("second", (), ("second", pair), same(("first", pair), ZERO), (5,), ()),
        ]
        self.assert_faults(list(range(len(rows))), rows)

    def test_the_kind_of_the_step(self):
        over = same(V0, wide(400))
        rows = [("same", (NAT,), over, None, (), ()), ("zero", (), ZERO, same(ZERO, wide(400)), (), ()),
                ("zero", (), V0, NAT, (), ()), ("zero", (), ZERO, NAT, (), ()),
                ("rec", (), ("rec", over, ZERO, V0, ZERO), same(ZERO, wide(400)), (0, 1, 2, 3), ())]
        self.assert_faults([0, 1, 2, 4], rows)


class BookTest(LookingTest):
    def test_a_book_without_a_name_that_is_spoken_of(self):
        self.assert_wrong(DERIVATIONS["name"], {})
        self.assert_wrong(DERIVATIONS["name"], {"two": SOUND["two"]})
        self.assert_faults([1, 7], DERIVATIONS["turn"], {})
        self.assert_faults([1, 7], DERIVATIONS["turn"], {"plus": SOUND["plus"]})

    def test_a_book_that_tells_something_else(self):
        self.assert_wrong(DERIVATIONS["name"], {"plus": (NAT, ZERO)})
        # The kind is the same, the term is another one.
        self.assert_wrong(DERIVATIONS["turn"], {"two": (NAT, ZERO)})
        self.assert_faults([], DERIVATIONS["name"], {"plus": (PLUS_KIND, ZERO)})

    def test_books_that_are_not_sound(self):
        rows = [("name", (), ("name", "liar"), NONE, (), ())]
        self.assert_faults([], rows, WILD)
        self.assert_faults([0], rows, SOUND)


class KeepsNothingTest(LookingTest):
    """Point 1."""

    def test_what_is_handed_in_stays(self):
        for rule in RULES:
            for rows in (list(DERIVATIONS[rule]), with_last(DERIVATIONS[rule], ups=(-1,), logs=((), ()))):
                before, book = copy.deepcopy(rows), dict(SOUND)
                faults_of(rows, book)
                self.assertEqual(rows, before)
                self.assertEqual(list(book.items()), list(SOUND.items()))

    def test_the_answer_is_the_askers_own(self):
        rows = [("zero", (), ZERO, NONE, (), ()), NAT_ROW, ("nat", (), NAT, NAT, (), ())]
        told = faults_of(rows, SOUND)
        told.append(77)
        again = faults_of(rows, SOUND)
        self.assertEqual(again, [0, 2])
        rows.clear()
        self.assertEqual((told, again), ([0, 2, 77], [0, 2]))
        self.assertEqual(faults_of(rows, SOUND), [])

    def test_changed_behind_the_call(self):
        rows, book = list(DERIVATIONS["turn"]), dict(SOUND)
        self.assertEqual(faults_of(rows, book), [])
        book["two"] = (NAT, ONE)
        self.assertEqual(faults_of(rows, book), [7])
        book["two"] = SOUND["two"]
        rows[0] = ZERO_ROW
        self.assertEqual(faults_of(rows, book), [5, 6])


class ByChanceTest(LookingTest):
    def changed(self, chance, rows):
        number = chance.randrange(len(rows))
        row, other = list(rows[number]), rows[chance.randrange(len(rows))]
        field = chance.randrange(6)
        if field == 4:
            ups = list(row[4]) + [0]
            ups[chance.randrange(len(ups))] = chance.randrange(-2, len(rows) + 2)
            row[4] = tuple(ups[:len(row[4])] if chance.random() < 0.8 else ups)
        elif field == 5 and row[0] == "turn":
            logs = [list(log) for log in row[5]]
            log = chance.choice(logs)
            if log and chance.random() < 0.7:
                log.pop(chance.randrange(len(log)))
            else:
                log.append(((chance.randrange(3),), chance.choice(("fun", "name", "zero"))))
            row[5] = tuple(tuple(log) for log in logs)
        else:
            row[field] = other[field]
        return rows[:number] + [tuple(row)] + rows[number + 1:]

    def test_rows_that_are_changed_somewhere(self):
        chance = random.Random(81)
        seen = {}
        for context, kind, term in lawful(90, 82, SOUND):
            rows = derived(context, term, 500, SOUND)
            for count in range(8):
                wrong = self.changed(chance, rows)
                told = faults_of(wrong, SOUND)
                self.assertEqual(told, faults_by_table(wrong, SOUND))
                seen[len(told)] = True
        self.assertIn(0, seen)
        self.assertIn(1, seen)
        self.assertGreater(len(seen), 3)


if __name__ == "__main__":
    unittest.main()
