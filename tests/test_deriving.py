import copy
import unittest
from unittest import mock

from keeper.deriving import derived
from keeper.errors import Dry, Great, KeeperError, NoName, NotAll, NotSame, NotSome, NoVariable, Unlike
from keeper.judging import kind_of, let_by
from keeper.looking import faults_of
from keeper.things import is_kind, is_term
from tests import test_judging
from tests.books import SOUND, TO_NAT, at, number, plus, wide_nat
from tests.lawful import lawful
from tests.looking_by_table import faults_by_table
from tests.refusals import assert_refused
from tests.rows import CONTEXT, DERIVATIONS, KIND_WORDS, LIKE, RULES, SOME, TWO, same
from tests.samples import NAT, NONE, V0, V1, V2, ZERO, many_terms, under, var

FUEL = 500
FOUR = ("name", "four")
TERM_RULES = [rule for rule in RULES if rule not in KIND_WORDS and rule != "turn"]


def rules_of(rows):
    return sorted(set(row[0] for row in rows))


class DerivingTest(unittest.TestCase):
    """Points 21 and 22."""

    def assert_form(self, rows):
        self.assertIsInstance(rows, list)
        for number_of, row in enumerate(rows):
            self.assertIsInstance(row, tuple)
            self.assertEqual(len(row), 6)
            rule, context, thing, kind, ups, logs = row
            self.assertIn(rule, RULES)
            for part in (context, ups, logs):
                self.assertIsInstance(part, tuple)
            self.assertTrue(all(is_kind(each) for each in context))
            self.assertTrue(is_kind(thing) if kind is None else is_term(thing) and is_kind(kind), row)
            for up in ups:
                self.assertIs(type(up), int)
                self.assertTrue(0 <= up < number_of)
            self.assertEqual(len(logs), 2 if rule == "turn" else 0)
            for log in logs:
                self.assertIsInstance(log, tuple)
                for place, step in log:
                    self.assertEqual((type(place), type(step)), (tuple, str))

    def assert_derived(self, context, term, fuel=FUEL, book=SOUND):
        rows = derived(context, term, fuel, book)
        self.assert_form(rows)
        self.assertEqual(faults_by_table(rows, book), [])
        self.assertEqual(faults_of(rows, book), [])
        self.assertEqual(rows[-1][1:4], (tuple(context), term, kind_of(context, term, fuel, book)))
        # Nothing is told twice: what is wanted in several places could else be told without end.
        self.assertEqual(len(rows), len(set(row[:4] for row in rows)))
        return rows


class EachRuleTest(DerivingTest):
    EMPTY = (
        ZERO, number(3), TWO, ("name", "fact"), ("fun", NAT, V0), at(("fun", NAT, V0), ZERO), plus(TWO, FOUR), LIKE,
        ("rec", NAT, ZERO, ("fun", NAT, ("fun", NAT, V0)), TWO), ("carry", same(V0, V0), LIKE, LIKE),
        ("pair", SOME, ZERO, TWO), ("first", ("pair", SOME, ZERO, TWO)), ("second", ("pair", SOME, ZERO, TWO)),
        ("fun", NONE, ("never", same(ZERO, number(1)), V0)), SOUND["turn"][1], SOUND["times"][1],
    )

    def test_each_rule_as_the_last_row(self):
        for rule in TERM_RULES:
            wanted = DERIVATIONS[rule][-1]
            for context in (list(CONTEXT), CONTEXT):
                rows = self.assert_derived(context, wanted[2])
                self.assertEqual(rows[-1][:4], wanted[:4])

    def test_in_longer_contexts(self):
        for rule in TERM_RULES:
            wanted = DERIVATIONS[rule][-1]
            for more in ((NAT,), (NAT, NONE, SOME), (NAT,) * 20):
                rows = self.assert_derived(CONTEXT + more, wanted[2])
                self.assertEqual(rows[-1][:4], (rule, CONTEXT + more) + wanted[2:4])

    def test_in_the_empty_context(self):
        for term in self.EMPTY:
            for context in ([], ()):
                rows = self.assert_derived(context, term)
                self.assertEqual(rows[-1][:2], (term[0], ()))

    def test_under_binders(self):
        for term in self.EMPTY:
            self.assert_derived([], under(3, term))
            self.assert_derived([NONE, NAT], under(2, term))

    def test_each_other_rule_is_there(self):
        kind = ("some", NAT, ("all", NONE, same(V1, ZERO)))
        self.assertEqual(rules_of(self.assert_derived([], ("fun", kind, ZERO))),
                         ["all", "fun", "nat", "none", "same", "some", "var", "zero"])

    def test_a_single_row(self):
        self.assertEqual(derived([], ZERO, 0, {}), [("zero", (), ZERO, NAT, (), ())])
        self.assertEqual(derived([NAT], V0, 0, {}), [("var", (NAT,), V0, NAT, (), ())])
        self.assertEqual(derived((NONE, same(V0, V0), NAT), V1, 0, {}),
                         [("var", (NONE, same(V0, V0), NAT), V1, same(V2, V2), (), ())])
        self.assertEqual(derived([], ("name", "two"), 0, SOUND), [("name", (), TWO, NAT, (), ())])

    def test_many_terms(self):
        turns = 0
        for context, kind, term in lawful(200, 71, SOUND):
            try:
                rows = self.assert_derived(context, term)
            except (Dry, Great):
                self.fail((context, term))
            turns += "turn" in rules_of(rows)
        self.assertGreater(turns, 25)

    def test_the_names_of_the_book(self):
        ahead = {}
        for name, (kind, term) in SOUND.items():
            self.assert_derived([], term, FUEL, ahead)
            ahead[name] = (kind, term)


class TurnTest(DerivingTest):
    """A part of it is of a kind that is alike to the one due, but not the very one."""

    LIKE_TWO = ("like", NAT, TWO)
    TWO_IS_TWO = same(TWO, number(2))

    def assert_turned(self, context, term, fuel=FUEL, book=SOUND):
        rows = self.assert_derived(context, term, fuel, book)
        self.assertIn("turn", rules_of(rows))
        return [row for row in rows if row[0] == "turn"]

    def test_app(self):
        turns = self.assert_turned([], at(("fun", self.TWO_IS_TWO, ZERO), self.LIKE_TWO))
        self.assertEqual([row[1:4] for row in turns], [((), self.LIKE_TWO, self.TWO_IS_TWO)])
        self.assert_turned([("all", self.TWO_IS_TWO, NAT)], at(V0, self.LIKE_TWO))
        self.assert_turned((("all", self.TWO_IS_TWO, NAT), NONE), at(V0, self.LIKE_TWO))

    def test_same_like_and_pair(self):
        for term in (
            ("like", self.TWO_IS_TWO, self.LIKE_TWO),
            ("fun", ("same", self.TWO_IS_TWO, self.LIKE_TWO, ("like", NAT, number(2))), ZERO),
            ("pair", ("some", self.TWO_IS_TWO, NAT), self.LIKE_TWO, ZERO),
            ("pair", ("some", NAT, same(V0, number(2))), TWO, self.LIKE_TWO),
            ("pair", ("some", NAT, same(V0, TWO)), number(2), self.LIKE_TWO),
        ):
            for context in ([], [NONE], (NAT, SOME)):
                self.assert_turned(context, term)

    def test_rec(self):
        over = same(V0, at(("fun", NAT, V0), V0))
        start, step = LIKE, ("fun", NAT, ("fun", over, ("like", NAT, ("next", V1))))
        for count in (ZERO, TWO, number(3), plus(TWO, TWO)):
            turns = self.assert_turned([], ("rec", over, start, step, count))
            self.assertEqual(len([row for row in turns if row[2] in (start, step)]), 2)
        self.assert_turned([NONE, NAT], under(1, ("rec", over, start, step, V0)))

    def test_carry(self):
        term = ("carry", same(V0, number(2)), ("like", NAT, number(2)), self.LIKE_TWO)
        self.assert_turned([], term)
        context = [same(TWO, V0), NAT]
        self.assert_turned(context, ("carry", same(V0, number(2)), ("like", NAT, number(2)), V0))

    def test_the_kind_turned_to_needs_a_turn_itself(self):
        due = ("same", self.TWO_IS_TWO, self.LIKE_TWO, ("like", NAT, number(2)))
        own = ("like", same(number(2), TWO), ("like", NAT, number(2)))
        turns = self.assert_turned([("all", due, NAT)], at(V0, own))
        self.assertGreater(len(turns), 3)

    def test_of_a_book(self):
        fact = at(("fun", same(number(4), FOUR), ZERO), ("name", "fact"))
        for context in ([], [NAT], (NONE, NAT)):
            self.assert_turned(context, fact)

    def test_no_turn_where_the_kind_is_the_very_one(self):
        for term in (at(("fun", same(TWO, TWO), ZERO), self.LIKE_TWO), ("like", same(TWO, TWO), self.LIKE_TWO),
                     plus(TWO, FOUR)):
            self.assertNotIn("turn", rules_of(self.assert_derived([], term)))

    def test_proofs(self):
        nought_and = same(plus(ZERO, V0), V0)
        step = ("fun", NAT, ("fun", nought_and, (
            "carry", same(("next", plus(ZERO, V2)), ("next", V0)), ("like", NAT, ("next", plus(ZERO, V1))), V0)))
        proof = ("fun", NAT, ("rec", nought_and, LIKE, step, V0))
        rows = self.assert_derived([], proof)
        self.assertEqual(rows[-1][3], ("all", NAT, nought_and))
        self.assertIn("turn", rules_of(rows))
        book = dict(SOUND, noughtand=(rows[-1][3], proof))
        self.assert_turned([], at(("fun", same(TWO, TWO), ZERO), at(("name", "noughtand"), TWO)), FUEL, book)


class ChainTest(DerivingTest):
    """Where one turn needs another one, and that a third one, and so on."""

    def chain(self, count):
        """A book of functions, each of what is alike to (same nat 0 0) by the one ahead, and the last one at that."""
        book = {}
        value = at(("fun", NAT, V0), ZERO)
        for place in range(count):
            name = "q" + "".join("abcdefghij"[int(figure)] for figure in str(place))
            kind = same(value, ZERO)
            book[name] = (("all", kind, NAT), ("fun", kind, ZERO))
            value = at(("name", name), LIKE)
        return book, value

    def test_the_book_is_sound(self):
        book, term = self.chain(30)
        ahead = {}
        for name, (kind, function) in book.items():
            self.assertIs(let_by([], kind, 3, ahead), True)
            self.assertEqual(kind_of([], function, 3, ahead), kind)
            ahead[name] = (kind, function)

    def test_short_and_long(self):
        for count in (1, 2, 10, 100, 600):
            book, term = self.chain(count)
            rows = self.assert_derived([], term, 3, book)
            self.assertEqual(len([row for row in rows if row[0] == "turn"]), count)

    def test_up_to_three_thousand_rows(self):
        book, term = self.chain(700)
        count = len(derived([], term, 3, book))
        more = (3000 - count) // 4
        rest = (3000 - count) - 4 * more
        book, term = self.chain(700 + more)
        for times in range(rest):
            term = ("next", term)
        self.assertEqual(len(self.assert_derived([], term, 3, book)), 3000)
        # By point 22 it may be refused from here on.
        self.assertEqual(kind_of([], ("next", term), 3, book), NAT)
        assert_refused(self, Great, derived, [], ("next", term), 3, book)
        book, term = self.chain(3001)
        assert_refused(self, Great, derived, [], term, 3, book)

    def test_a_book_that_is_not_sound_comes_to_an_end(self):
        kind = ("all", same(at(("name", "itself"), LIKE), ZERO), NAT)
        book = {"itself": (kind, ("fun", NAT, ZERO))}
        assert_refused(self, Great, derived, [], at(("name", "itself"), LIKE), 10, book)

    def test_no_row_is_told_that_does_not_follow(self):
        # The kind of the variable isn't let by, and nothing is promised, but what is told follows all the same.
        wrong = same(at(("fun", NAT, ZERO), LIKE), ZERO)
        context = [("all", wrong, NAT)]
        self.assertEqual(kind_of(context, at(V0, LIKE), 10, {}), NAT)
        assert_refused(self, Unlike, derived, context, at(V0, LIKE), 10, {})


class RefusingTest(DerivingTest):
    """It refuses as kind_of does."""

    def assert_as_kind_of(self, context, term, fuel, book):
        try:
            kind = kind_of(context, term, fuel, book)
        except KeeperError as refusal:
            assert_refused(self, type(refusal), derived, context, term, fuel, book)
            return type(refusal)
        try:
            rows = derived(context, term, fuel, book)
        except (Dry, Great):
            return None
        self.assertEqual(rows[-1][1:4], (tuple(context), term, kind))
        return "kind"

    def test_terms_of_all_sorts(self):
        seen = {}
        context = [NAT, TO_NAT, same(V0, ZERO), NAT]
        for term in many_terms(800, 72, depth=4):
            seen[self.assert_as_kind_of(context, term, 50, SOUND)] = True
        for wanted in ("kind", NoVariable, NotAll, NotSome, NotSame, Unlike):
            self.assertIn(wanted, seen)

    def test_with_little_fuel(self):
        seen = {}
        for context, kind, term in lawful(150, 73, SOUND):
            for fuel in (0, 1, 2, 5):
                seen[self.assert_as_kind_of(context, term, fuel, SOUND)] = True
        self.assertIn("kind", seen)
        self.assertIn(Dry, seen)

    def test_each_refusal(self):
        for refusal, term in test_judging.BAD:
            for context in ([], (), [NAT], (NONE, NAT)):
                assert_refused(self, refusal, derived, context, term, FUEL, SOUND)
                assert_refused(self, refusal, derived, context, under(3, term), FUEL, SOUND)
        assert_refused(self, Dry, derived, [], at(("fun", same(TWO, TWO), ZERO), ("like", NAT, TWO)), 1, SOUND)
        assert_refused(self, Great, derived, [], ("like", NAT, wide_nat(300)), FUEL, SOUND)
        assert_refused(self, Great, derived, [same(var(99), V0)], V0, FUEL, SOUND)
        assert_refused(self, NoName, derived, [], TWO, FUEL, {})

    # What must be told of a turn needs much fuel, or is too great, and behind it stands what kind_of refuses.
    HARD = at(("fun", same(FOUR, number(4)), ZERO), ("like", NAT, FOUR))
    EASY_KIND = same(at(("fun", NAT, ZERO), HARD), ZERO)

    def test_a_refusal_behind_a_turn_that_may_be_refused(self):
        context = [("all", self.EASY_KIND, TO_NAT)]
        turned = at(V0, LIKE)
        self.assertEqual(kind_of(context, turned, 1, SOUND), TO_NAT)
        for refusal, term in test_judging.BAD:
            assert_refused(self, refusal, kind_of, context, at(turned, term), 1, SOUND)
            assert_refused(self, refusal, derived, context, at(turned, term), 1, SOUND)

    def test_only_dry_or_great_where_kind_of_gives_a_kind(self):
        context = [("all", self.EASY_KIND, TO_NAT)]
        turned = at(V0, LIKE)
        for fuel in range(1, 40):
            told = self.assert_as_kind_of(context, turned, fuel, SOUND)
            self.assertIn(told, ("kind", None))
        self.assertEqual(told, "kind")
        self.assert_derived(context, turned, 100)


class ByRows:
    """All that is asked of kind_of is asked of derived's last row."""

    def setUp(self):
        def told(context, term, fuel, book):
            return derived(context, term, fuel, book)[-1][3]

        patch = mock.patch.object(test_judging, "kind_of", told)
        patch.start()
        self.addCleanup(patch.stop)


class FormsByRowsTest(ByRows, test_judging.FormsTest):
    pass


class StepKindByRowsTest(ByRows, test_judging.StepKindTest):
    pass


class OrderByRowsTest(ByRows, test_judging.OrderTest):
    pass


class GreatByRowsTest(ByRows, test_judging.GreatTest):
    pass


class DryByRowsTest(ByRows, test_judging.DryTest):
    pass


class WithoutEndByRowsTest(ByRows, test_judging.WithoutEndTest):
    pass


class KeepsNothingTest(DerivingTest):
    """Point 1."""

    TERM = at(("fun", same(TWO, number(2)), plus(TWO, V1)), ("like", NAT, TWO))

    def test_the_same_each_time(self):
        first = derived([NAT], under(1, self.TERM), FUEL, SOUND)
        kept = copy.deepcopy(first)
        self.assertEqual(derived((NAT,), under(1, self.TERM), FUEL, dict(SOUND)), kept)
        first[0] = first.pop()
        first.append(("zero", (), ZERO, NAT, (), ()))
        self.assertEqual(derived([NAT], under(1, self.TERM), FUEL, SOUND), kept)
        first.clear()
        self.assertEqual(derived([NAT], under(1, self.TERM), FUEL, SOUND), kept)

    def test_the_same_behind_a_refusal_and_other_fuel(self):
        kept = derived([NAT], self.TERM, FUEL, SOUND)
        assert_refused(self, Dry, derived, [NAT], self.TERM, 0, SOUND)
        assert_refused(self, NoName, derived, [NAT], self.TERM, FUEL, {})
        self.assertEqual(derived([NAT], self.TERM, FUEL + 77, SOUND), kept)

    def test_what_is_handed_in_stays(self):
        context, book = [NAT, NONE, NAT], dict(SOUND)
        for term in (self.TERM, under(2, var(3)), ("never", NAT, V1), ("like", NAT, V2)):
            derived(context, term, FUEL, book)
        for refusal, term in test_judging.BAD:
            assert_refused(self, refusal, derived, context, term, FUEL, book)
        self.assertEqual(context, [NAT, NONE, NAT])
        self.assertEqual(list(book.items()), list(SOUND.items()))

    def test_changed_behind_the_call(self):
        context, book = [NAT], dict(SOUND)
        rows = derived(context, self.TERM, FUEL, book)
        kept = copy.deepcopy(rows)
        context[0] = NONE
        context.append(NAT)
        book.clear()
        self.assertEqual(rows, kept)
        assert_refused(self, NoName, derived, context, self.TERM, FUEL, book)
        self.assertEqual(derived(context, V0, FUEL, book), [("var", (NONE, NAT), V0, NONE, (), ())])
        self.assertEqual(derived([NAT], self.TERM, FUEL, SOUND), kept)


if __name__ == "__main__":
    unittest.main()
