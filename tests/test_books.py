import itertools
import random
import unittest

from keeper.books import added
from keeper.equality import alike
from keeper.errors import Dry, Great, NoName, NotAll, NotClosed, NotSame, NotSome, NoWord, TwiceTold, Unlike
from keeper.judging import kind_of, let_by
from keeper.normal import normal
from keeper.putting import free_in
from keeper.reading import read_kind, read_term
from tests.books import PLUS, PLUS_KIND, SOUND, TO_NAT, at, number, plus, wide_nat
from tests.changing import changed, is_true, outcome
from tests.lawful import lawful
from tests.refusals import assert_refused
from tests.samples import NAT, NONE, V0, V1, WORDS, ZERO, under

FUEL = 500
GONE = ("name", "gone")
CLOSED = [(kind, term) for context, kind, term in lawful(400, 291, SOUND) if not context]

GREAT = ("like", NAT, wide_nat(300))
SUM_KIND = ("same", NAT, plus(number(2), number(2)), number(4))
SUM_TERM = ("like", NAT, number(4))


def added_by_points(book, name, kind, term, fuel):
    """What stands behind the free variables in point 29, for names that are new."""
    let_by([], kind, fuel, book)
    own = kind_of([], term, fuel, book)
    if not alike(own, kind, fuel, book):
        return Unlike
    return dict(list(book.items()) + [(name, (kind, term))])


class AddedTest(unittest.TestCase):
    """Point 29."""

    def test_to_a_book_without_names(self):
        self.assertEqual(added({}, "one", NAT, number(1), 0), {"one": (NAT, number(1))})
        self.assertEqual(added({}, "plus", PLUS_KIND, PLUS, 0), {"plus": (PLUS_KIND, PLUS)})

    def test_behind_the_names_that_are_there(self):
        book = {}
        for name in ("zeta", "alpha", "mu", "beta"):
            book = added(book, name, NAT, number(len(book)), 0)
        self.assertEqual(list(book), ["zeta", "alpha", "mu", "beta"])
        self.assertEqual(list(book.values()), [(NAT, number(count)) for count in range(4)])

    def test_a_sound_book_can_be_made_so(self):
        book = {}
        for name, (kind, term) in SOUND.items():
            book = added(book, name, kind, term, FUEL)
        self.assertEqual(list(book.items()), list(SOUND.items()))

    def test_what_was_added_is_spoken_of(self):
        book = added(SOUND, "three", NAT, ("next", ("name", "two")), FUEL)
        book = added(book, "seven", NAT, plus(("name", "three"), ("name", "four")), FUEL)
        book = added(book, "known", ("same", NAT, ("name", "seven"), number(7)), ("like", NAT, number(7)), FUEL)
        self.assertEqual(list(book)[len(SOUND):], ["three", "seven", "known"])
        self.assertEqual(kind_of([], ("name", "known"), FUEL, book), ("same", NAT, ("name", "seven"), number(7)))

    def test_names(self):
        for name in ("a", "z", "abcdefghijkl", "zzzzzzzzzzzz", "nats", "na", "naty", "defined", "type"):
            self.assertEqual(added({}, name, NAT, ZERO, 0), {name: (NAT, ZERO)})

    def test_what_is_no_name(self):
        for name in WORDS + ("", " ", "abcdefghijklm", "A", "Plus", "pluS", "a1", "1", "a b", "a ", " a", "a\n", "a_b",
                             "a-b", "(", ")", "(a)", "\u00e9", "\u0430", "a.b"):
            assert_refused(self, NoWord, added, {}, name, NAT, ZERO, FUEL)
            assert_refused(self, NoWord, added, SOUND, name, NAT, ZERO, FUEL)

    def test_a_name_that_the_book_has(self):
        for name, (kind, term) in SOUND.items():
            assert_refused(self, TwiceTold, added, SOUND, name, kind, term, FUEL)
            assert_refused(self, TwiceTold, added, SOUND, name, NAT, ZERO, FUEL)
        book = added(SOUND, "fresh", NAT, ZERO, FUEL)
        assert_refused(self, TwiceTold, added, book, "fresh", NAT, ZERO, FUEL)

    def test_free_variables(self):
        for kind, term in (
            (NAT, V0), (NAT, ("var", 99)), (NAT, ("next", V0)), (TO_NAT, under(1, V1)),
            (("same", NAT, V0, ZERO), ZERO), (("all", NAT, ("same", NAT, V0, V1)), ZERO),
            (("same", NAT, V0, V0), ("like", NAT, V0)),
            (NAT, ("rec", ("same", NAT, V0, V0), V0, ZERO, ZERO)),
        ):
            assert_refused(self, NotClosed, added, SOUND, "fresh", kind, term, FUEL)

    def test_bound_variables_are_not_free(self):
        kind = ("all", NAT, ("same", NAT, V0, V0))
        self.assertEqual(added({}, "self", kind, under(1, ("like", NAT, V0)), 0),
                         {"self": (kind, under(1, ("like", NAT, V0)))})

    def test_a_kind_that_is_not_let_by(self):
        for refusal, kind in (
            (Unlike, ("same", NAT, ZERO, ("like", NAT, ZERO))),
            (NoName, ("same", NAT, GONE, ZERO)),
            (NotAll, ("all", NAT, ("same", NAT, at(V0, ZERO), ZERO))),
            (NotSome, ("same", NAT, ("first", ZERO), ZERO)),
            (NotSame, ("same", NAT, ("carry", NAT, ZERO, ZERO), ZERO)),
            (Great, ("same", NAT, GREAT, ZERO)),
            (Dry, ("same", ("same", NAT, number(4), number(4)),
                   ("like", NAT, plus(number(2), number(2))), ("like", NAT, number(4)))),
        ):
            assert_refused(self, refusal, added, SOUND, "fresh", kind, ZERO, 5)

    def test_a_term_that_is_not_let_by(self):
        for refusal, term in (
            (Unlike, ("next", ("like", NAT, ZERO))),
            (NoName, GONE),
            (NoName, ("next", GONE)),
            (NotAll, at(ZERO, ZERO)),
            (NotSome, ("first", ZERO)),
            (NotSome, ("pair", NAT, ZERO, ZERO)),
            (NotSame, ("carry", NAT, ZERO, ZERO)),
            (Great, ("first", GREAT)),
            (Great, GREAT),
            (Dry, ("never", NAT, ("name", "fact"))),
        ):
            assert_refused(self, refusal, added, SOUND, "fresh", NAT, term, 3)

    def test_a_term_of_another_kind(self):
        for kind, term in (
            (NAT, ("like", NAT, ZERO)), (TO_NAT, ZERO), (NONE, ZERO), (NAT, under(1, V0)), (PLUS_KIND, under(1, V0)),
            (("same", NAT, ZERO, number(1)), ("like", NAT, ZERO)),
            (("same", NAT, plus(number(2), number(2)), number(5)), SUM_TERM),
            (("some", NAT, NAT), ("pair", ("some", NAT, ("same", NAT, V0, V0)), ZERO, ("like", NAT, ZERO))),
        ):
            assert_refused(self, Unlike, added, SOUND, "fresh", kind, term, FUEL)

    def test_a_term_whose_kind_is_alike_but_not_the_very_one(self):
        self.assertNotEqual(kind_of([], SUM_TERM, FUEL, SOUND), SUM_KIND)
        book = added(SOUND, "sum", SUM_KIND, SUM_TERM, FUEL)
        self.assertEqual(book["sum"], (SUM_KIND, SUM_TERM))
        self.assertEqual(kind_of([], ("name", "sum"), 0, book), SUM_KIND)
        term = ("like", NAT, plus(number(2), number(2)))
        self.assertEqual(added(SOUND, "sum", SUM_KIND, term, FUEL)["sum"], (SUM_KIND, term))

    def test_fuel_that_is_just_enough_and_one_less(self):
        twice = ("like", NAT, plus(number(2), number(2)))
        count = len(normal(SUM_KIND, FUEL, SOUND)[1])
        self.assertGreater(count, 5)
        # The kind of the second one has the sum on both sides.
        for term, need in ((SUM_TERM, count), (twice, 2 * count)):
            for fuel in (need, need + 1):
                self.assertIn("sum", added(SOUND, "sum", SUM_KIND, term, fuel))
            assert_refused(self, Dry, added, SOUND, "sum", SUM_KIND, term, need - 1)
            assert_refused(self, Dry, added, SOUND, "sum", SUM_KIND, term, 0)

    def test_without_fuel(self):
        self.assertIn("fresh", added(SOUND, "fresh", NAT, plus(number(2), ("name", "four")), 0))

    def test_the_terms_kind_is_reduced_ahead_of_the_one_told(self):
        # All is let by; of the two kinds the one is dry, the other too great, and the other way round.
        twice = at(("fun", TO_NAT, plus(at(V0, ZERO), at(V0, ZERO))), ("fun", NAT, wide_nat(300)))
        great, dry = ("same", NAT, twice, ZERO), ("same", NAT, ("name", "four"), ZERO)
        assert_refused(self, Great, normal, great, 1, SOUND)
        assert_refused(self, Dry, normal, dry, 1, SOUND)
        for own, told, refusal in ((great, dry, Great), (dry, great, Dry), (great, NAT, Great), (NAT, great, Great),
                                   (dry, NAT, Dry), (NAT, dry, Dry)):
            assert_refused(self, refusal, added, SOUND, "fresh", ("all", told, NAT), ("fun", own, ZERO), 1)

    def test_the_name_itself_in_its_own_term_or_kind(self):
        assert_refused(self, NoName, added, SOUND, "loop", NAT, ("name", "loop"), FUEL)
        assert_refused(self, NoName, added, SOUND, "loop", TO_NAT, under(1, at(("name", "loop"), V0)), FUEL)
        assert_refused(self, NoName, added, SOUND, "loop", ("same", NAT, ("name", "loop"), ZERO), ZERO, FUEL)

    def test_a_name_that_comes_behind(self):
        ahead = {"plus": SOUND["plus"]}
        assert_refused(self, NoName, added, ahead, "four", *SOUND["four"], FUEL)


# What is wrong with each part, and where it comes in the order of point 29.
NAMES = ((1, NoWord, "nat"), (1, NoWord, "Two"), (2, TwiceTold, "two"), (9, None, "fresh"))
KINDS = (
    (3, NotClosed, ("same", NAT, V0, ZERO)), (3, NotClosed, ("same", NAT, V0, GONE)),
    (4, NoName, ("same", NAT, GONE, ZERO)), (4, NotAll, ("same", NAT, at(ZERO, ZERO), ZERO)),
    (4, NotSome, ("same", NAT, ("second", ZERO), ZERO)), (9, None, NAT),
)
TERMS = (
    (3, NotClosed, V0), (3, NotClosed, at(ZERO, V1)), (5, NoName, GONE), (5, NotAll, at(ZERO, ZERO)),
    (5, NotSome, ("first", ZERO)), (6, Unlike, ("like", NAT, ZERO)), (9, None, ZERO),
)


class OrderTest(unittest.TestCase):
    def test_where_several_would_come_the_first_one_does(self):
        for name, kind, term in itertools.product(NAMES, KINDS, TERMS):
            place, refusal, part = min((name, kind, term), key=lambda part: part[0])
            values = (SOUND, name[2], kind[2], term[2], FUEL)
            if refusal is None:
                self.assertEqual(added(*values)["fresh"], (NAT, ZERO))
            else:
                assert_refused(self, refusal, added, *values)

    def test_what_is_not_closed_comes_ahead_of_fuel_and_greatness(self):
        assert_refused(self, NotClosed, added, SOUND, "fresh", SUM_KIND, V0, 0)
        assert_refused(self, NotClosed, added, SOUND, "fresh", ("same", NAT, V0, ZERO), GREAT, 0)

    def test_the_kind_comes_ahead_of_the_term(self):
        dry = ("same", ("same", NAT, number(4), number(4)), ("like", NAT, plus(number(2), number(2))), SUM_TERM)
        great = GREAT
        self.assertIs(let_by([], dry, FUEL, SOUND), True)
        assert_refused(self, Dry, added, SOUND, "fresh", dry, great, 3)
        assert_refused(self, Great, added, SOUND, "fresh", ("same", NAT, great, ZERO), at(ZERO, ZERO), FUEL)
        assert_refused(self, Great, added, SOUND, "fresh", NAT, great, FUEL)


class BesideTest(unittest.TestCase):
    """The new book beside the old one."""

    def test_the_book_handed_in_stays(self):
        book = dict(SOUND)
        new = added(book, "fresh", NAT, ZERO, FUEL)
        self.assertEqual(list(book.items()), list(SOUND.items()))
        self.assertEqual(list(new.items()), list(SOUND.items()) + [("fresh", (NAT, ZERO))])

    def test_the_book_stays_where_it_is_refused(self):
        book = dict(SOUND)
        for name, kind, term in (("two", NAT, ZERO), ("Two", NAT, ZERO), ("fresh", NAT, V0), ("fresh", NONE, ZERO)):
            self.assertIsInstance(outcome(added, book, name, kind, term, FUEL), type)
            self.assertEqual(list(book.items()), list(SOUND.items()))

    def test_changing_the_new_one_leaves_the_old_one(self):
        book = dict(SOUND)
        new = added(book, "fresh", NAT, ZERO, FUEL)
        new["other"] = (NAT, ZERO)
        new["two"] = (NAT, ZERO)
        new.pop("plus")
        self.assertEqual(list(book.items()), list(SOUND.items()))

    def test_changing_the_old_one_leaves_the_new_one(self):
        book = dict(SOUND)
        new = added(book, "fresh", NAT, ZERO, FUEL)
        book.clear()
        self.assertEqual(list(new.items()), list(SOUND.items()) + [("fresh", (NAT, ZERO))])

    def test_the_same_again(self):
        first = added(SOUND, "fresh", NAT, ZERO, FUEL)
        first.clear()
        self.assertEqual(added(SOUND, "fresh", NAT, ZERO, FUEL), {**SOUND, "fresh": (NAT, ZERO)})


class SoundTest(unittest.TestCase):
    def test_lawful_terms_are_added(self):
        self.assertGreater(len(CLOSED), 60)
        for kind, term in CLOSED:
            self.assertEqual(added(SOUND, "fresh", kind, term, FUEL), {**SOUND, "fresh": (kind, term)})
            self.assertTrue(is_true(kind))

    def test_one_behind_the_other(self):
        book = dict(SOUND)
        for count, (kind, term) in enumerate(CLOSED[:40]):
            book = added(book, "q" + "abcdefghij"[count // 10] + "abcdefghij"[count % 10], kind, term, FUEL)
        ahead = {}
        for name, (kind, term) in book.items():
            self.assertIs(let_by([], kind, FUEL, ahead), True)
            self.assertIs(alike(kind_of([], term, FUEL, ahead), kind, FUEL, ahead), True)
            ahead[name] = (kind, term)

    def test_as_by_the_points(self):
        chance = random.Random(292)
        seen = {}
        for kind, term in CLOSED:
            for count in range(6):
                others = [changed(chance, kind), changed(chance, term)]
                choice = chance.randrange(3)
                values = (SOUND, "fresh", others[0] if choice != 1 else kind, others[1] if choice != 0 else term, FUEL)
                if Great in values or free_in(values[2]) or free_in(values[3]):
                    continue
                told = outcome(added, *values)
                self.assertEqual(told, outcome(added_by_points, *values))
                seen[told if isinstance(told, type) else "book"] = True
        self.assertGreater(len(seen), 4)


class ReadTest(unittest.TestCase):
    def test_what_is_read_is_added(self):
        double = read_term("(fun x nat (app (app plus x) x))", [])
        book = added(SOUND, "twice", read_kind("(all x nat nat)", []), double, 9)
        kind = read_kind("(same nat (app twice 3) 6)", [])
        self.assertIn("six", added(book, "six", kind, read_term("(like nat 6)", []), FUEL))


if __name__ == "__main__":
    unittest.main()
