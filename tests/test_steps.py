import unittest

from keeper.errors import Great, NoPlace, NoStep
from keeper.places import at_place, places_of, with_at
from keeper.steps import rule_of, stepped, steps_of
from keeper.things import depth_of, is_kind, is_term, size_of
from tests.books import SOUND, WILD, at
from tests.refusals import assert_refused
from tests.samples import (
    KINDS, NAT, NONE, TERMS, V0, V1, V2, V3, ZERO, deep, many_kinds, many_terms, under, var, wide,
)

X, Y = ("name", "x"), ("name", "y")
BOOK = {"told": (NAT, ("next", ZERO)), "body": (("all", NAT, NAT), ("fun", NAT, V0))}
SOME = ("some", NAT, NAT)
SAME = ("same", NAT, V0, V1)

# Each rule, with what steps by it and what comes of that. The variables in them may be free or bound from above.
STEPS = (
    ("fun", ("app", ("fun", NAT, V0), X), X),
    ("fun", ("app", ("fun", NAT, V1), X), V0),
    ("fun", ("app", ("fun", SAME, ("app", V0, V2)), V3), ("app", V3, V1)),
    ("fun", ("app", ("fun", NAT, ("fun", SAME, ("app", V1, V0))), V0),
     ("fun", ("same", NAT, V0, V0), ("app", V1, V0))),
    ("fun", ("app", ("fun", NAT, ("rec", SAME, V0, V1, V2)), ("fun", NAT, V1)),
     ("rec", ("same", NAT, V0, ("fun", NAT, V2)), ("fun", NAT, V1), V0, V1)),
    ("zero", ("rec", SAME, V0, V1, ZERO), V0),
    ("zero", ("rec", NAT, ("app", X, V2), Y, ZERO), ("app", X, V2)),
    ("next", ("rec", SAME, V0, V1, ("next", V2)), ("app", ("app", V1, V2), ("rec", SAME, V0, V1, V2))),
    ("next", ("rec", NAT, X, Y, ("next", ("next", ZERO))),
     ("app", ("app", Y, ("next", ZERO)), ("rec", NAT, X, Y, ("next", ZERO)))),
    ("like", ("carry", SAME, V1, ("like", NAT, V2)), V1),
    ("like", ("carry", NONE, ("app", X, V0), ("like", SAME, X)), ("app", X, V0)),
    ("first", ("first", ("pair", SOME, V1, V2)), V1),
    ("first", ("first", ("pair", NAT, ("first", X), Y)), ("first", X)),
    ("second", ("second", ("pair", SOME, V1, V2)), V2),
    ("second", ("second", ("pair", NONE, X, ("second", Y))), ("second", Y)),
    ("name", ("name", "told"), ("next", ZERO)),
    ("name", ("name", "body"), ("fun", NAT, V0)),
)
RULES = ("fun", "zero", "next", "like", "first", "second", "name")

# Nothing of these steps itself, though some of it is near to it or has something within that steps.
STILL = (
    ("name", "nowhere"), ("name", "tol"), ("name", "toldd"), ZERO, V0, ("next", ("name", "told")),
    ("fun", NAT, ("name", "told")), ("app", ("name", "body"), ZERO), ("app", V0, ("fun", NAT, V0)),
    ("app", ("app", ("fun", NAT, V0), ZERO), ZERO), ("app", ("pair", SOME, X, Y), X), ("app", ("like", NAT, X), X),
    ("rec", NAT, ZERO, ZERO, V0), ("rec", NAT, ("next", ZERO), ("next", ZERO), ("name", "told")),
    ("rec", NAT, ZERO, ("fun", NAT, V0), ("fun", NAT, V0)), ("rec", NAT, ZERO, X, ("rec", NAT, ZERO, X, ZERO)),
    ("carry", NAT, ("like", NAT, X), V0), ("carry", NAT, ("like", NAT, X), ("pair", SOME, X, Y)),
    ("carry", NAT, ZERO, ZERO), ("carry", NAT, X, ("carry", NAT, X, ("like", NAT, X))),
    ("first", V0), ("first", ("like", NAT, X)), ("first", ("second", ("pair", SOME, X, Y))), ("first", ("fun", NAT, X)),
    ("second", V0), ("second", ("first", ("pair", SOME, X, Y))), ("second", ("next", X)),
    ("never", NAT, ("like", NAT, X)), ("never", NAT, ZERO), ("pair", SOME, ZERO, ZERO), ("like", NAT, ("like", NAT, X)),
    NAT, NONE, ("all", NAT, NAT), SOME, ("same", NAT, ("name", "told"), ("name", "told")),
)


def around(term):
    """Things with the term in them, each with its place."""
    kind = ("same", NAT, term, X)
    return (
        (term, ()),
        (("next", term), (0,)),
        (("fun", NAT, term), (1,)),
        (("fun", kind, V0), (0, 1)),
        (under(20, ("app", X, term)), (1,) * 20 + (1,)),
        (deep(30, ("second", term)), (0,) * 30),
        (("all", NAT, kind), (1, 1)),
        (("some", kind, NAT), (0, 1)),
        (("rec", kind, X, Y, V0), (0, 1)),
        (("rec", NAT, term, Y, V0), (1,)),
        (("rec", NAT, X, Y, ("app", V0, term)), (3, 1)),
        (("carry", ("same", kind, X, Y), X, V0), (0, 0, 1)),
        (("carry", NAT, X, ("next", term)), (2, 0)),
        (("pair", kind, X, Y), (0, 1)),
        (("pair", NAT, X, term), (2,)),
        (("never", kind, X), (0, 1)),
        (("like", NAT, term), (1,)),
        (("same", kind, X, Y), (0, 1)),
    )


class RuleTest(unittest.TestCase):
    """Points 12 and 13."""

    def test_all_seven_are_here(self):
        self.assertEqual(sorted(set(rule for rule, thing, wanted in STEPS)), sorted(RULES))

    def test_each_rule_at_the_root(self):
        for rule, thing, wanted in STEPS:
            self.assertEqual(rule_of(thing, BOOK), rule)
            self.assertEqual(stepped(thing, (), BOOK), wanted)

    def test_what_does_not_step(self):
        for thing in STILL:
            self.assertIsNone(rule_of(thing, BOOK), thing)
            assert_refused(self, NoStep, stepped, thing, (), BOOK)
        for thing in KINDS + TERMS:
            self.assertIsNone(rule_of(thing, {}), thing)
            assert_refused(self, NoStep, stepped, thing, (), {})

    def test_a_name_steps_by_its_own_book_alone(self):
        self.assertIsNone(rule_of(("name", "told"), {}))
        self.assertEqual(rule_of(("name", "told"), {"told": (NAT, X)}), "name")
        self.assertEqual(stepped(("name", "told"), (), {"told": (NAT, X)}), X)
        assert_refused(self, NoStep, stepped, ("name", "told"), (), {"tolt": (NAT, X)})
        self.assertEqual(stepped(("name", "loop"), (), WILD), ("name", "loop"))
        self.assertEqual(stepped(("name", "liar"), (), WILD), ZERO)

    def test_each_rule_under_binders_and_deep_within(self):
        for rule, thing, wanted in STEPS:
            for (whole, place), (after, same_place) in zip(around(thing), around(wanted)):
                self.assertTrue(is_term(whole) or is_kind(whole), whole)
                self.assertEqual(at_place(whole, place), thing)
                self.assertEqual(stepped(whole, place, BOOK), after)
                self.assertIn((place, rule), steps_of(whole, BOOK))

    def test_what_does_not_step_deep_within(self):
        for thing in STILL:
            if thing[0] not in ("nat", "none", "all", "some", "same"):
                for whole, place in around(thing):
                    assert_refused(self, NoStep, stepped, whole, place, BOOK)
                    self.assertNotIn(place, [found for found, rule in steps_of(whole, BOOK)])

    def test_only_what_stands_at_the_place_steps(self):
        redex = STEPS[0][1]
        self.assertEqual(stepped(("app", redex, redex), (0,), {}), ("app", X, redex))
        self.assertEqual(stepped(("app", redex, redex), (1,), {}), ("app", redex, X))


class StepsOfTest(unittest.TestCase):
    """Point 13."""

    def test_in_the_order_of_places(self):
        self.assertEqual(steps_of(ZERO, BOOK), [])
        self.assertEqual(steps_of(NAT, BOOK), [])
        self.assertEqual(steps_of(("name", "told"), BOOK), [((), "name")])
        self.assertEqual(steps_of(("name", "told"), {}), [])
        told = ("name", "told")
        thing = ("rec", ("same", NAT, told, told), ("app", ("fun", ("same", NAT, told, X), told), told),
                 ("first", ("pair", SOME, told, ("second", ("pair", SOME, X, X)))), ("next", ("next", told)))
        self.assertEqual(steps_of(thing, BOOK), [
            ((), "next"), ((0, 1), "name"), ((0, 2), "name"), ((1,), "fun"), ((1, 0, 0, 1), "name"),
            ((1, 0, 1), "name"), ((1, 1), "name"), ((2,), "first"), ((2, 0, 1), "name"), ((2, 0, 2), "second"),
            ((3, 0, 0), "name"),
        ])
        carry = ("carry", ("same", NAT, told, X), ("rec", NAT, ZERO, X, ZERO), ("like", NAT, told))
        self.assertEqual(steps_of(carry, BOOK), [
            ((), "like"), ((0, 1), "name"), ((1,), "zero"), ((2, 1), "name"),
        ])

    def test_place_by_place(self):
        for thing in many_terms(200, 21) + many_kinds(150, 22):
            wanted = []
            for place in places_of(thing):
                rule = rule_of(at_place(thing, place), SOUND)
                if rule is not None:
                    wanted.append((place, rule))
            self.assertEqual(steps_of(thing, SOUND), wanted)

    def test_pairs_are_tuples_in_a_list(self):
        told = steps_of(("next", ("name", "told")), BOOK)
        self.assertIs(type(told), list)
        self.assertIs(type(told[0]), tuple)
        self.assertIs(type(told[0][0]), tuple)

    def test_a_step_is_a_change_at_its_place_alone(self):
        for thing in many_terms(150, 23) + many_kinds(150, 24):
            for place, rule in steps_of(thing, SOUND):
                alone = stepped(at_place(thing, place), (), SOUND)
                self.assertEqual(stepped(thing, place, SOUND), with_at(thing, place, alone))

    def test_no_step_makes_a_kind_of_a_term_or_changes_the_word_of_a_kind(self):
        for thing in many_terms(150, 25):
            for place, rule in steps_of(thing, SOUND):
                self.assertTrue(is_term(stepped(thing, place, SOUND)))
        for thing in many_kinds(150, 26):
            for place, rule in steps_of(thing, SOUND):
                after = stepped(thing, place, SOUND)
                self.assertTrue(is_kind(after))
                self.assertEqual(after[0], thing[0])


class StepBoundsTest(unittest.TestCase):
    """Points 5 and 13."""

    def test_knots(self):
        twice = ("next", ("app", V0, V0))
        self.assertEqual(size_of(stepped(at(("fun", NAT, twice), wide(299)), (), {})), 600)
        assert_refused(self, Great, stepped, at(("fun", NAT, ("next", twice)), wide(299)), (), {})
        assert_refused(self, Great, stepped, at(("fun", NAT, twice), wide(300)), (), {})

    def test_knots_of_the_whole(self):
        book = {"big": (NAT, wide(500))}
        self.assertEqual(size_of(stepped(("app", ("name", "big"), wide(99)), (0,), book)), 600)
        assert_refused(self, Great, stepped, ("app", ("name", "big"), wide(100)), (0,), book)
        assert_refused(self, Great, stepped, under(20, ("app", ("name", "big"), wide(80))), (1,) * 20 + (0,), book)

    def test_knots_of_next(self):
        # It comes to 3 knots, P, z, and twice s and n.
        thing = ("rec", NAT, deep(2), wide(293), ("next", deep(4)))
        self.assertEqual(size_of(stepped(thing, (), {})), 600)
        thing = ("rec", NAT, deep(3), wide(293), ("next", deep(4)))
        assert_refused(self, Great, stepped, thing, (), {})

    def test_depth(self):
        self.assertEqual(stepped(at(("fun", NAT, deep(20, V0)), deep(21)), (), {}), deep(40))
        assert_refused(self, Great, stepped, at(("fun", NAT, deep(20, V0)), deep(22)), (), {})
        self.assertEqual(stepped(deep(11, ("name", "thirty")), (0,) * 10, WILD), deep(40))
        assert_refused(self, Great, stepped, deep(12, ("name", "thirty")), (0,) * 11, WILD)
        self.assertEqual(depth_of(stepped(("rec", NAT, ZERO, deep(38), ("next", X)), (), {})), 40)
        assert_refused(self, Great, stepped, ("rec", NAT, ZERO, deep(39), ("next", X)), (), {})

    def test_variables(self):
        self.assertEqual(stepped(at(("fun", NAT, under(3, V3)), var(96)), (), {}), under(3, var(99)))
        assert_refused(self, Great, stepped, at(("fun", NAT, under(3, V3)), var(97)), (), {})
        self.assertEqual(stepped(at(("fun", NAT, V0), var(99)), (), {}), var(99))
        self.assertEqual(stepped(at(("fun", NAT, var(99)), X), (), {}), var(98))

    def test_what_goes_does_not_count(self):
        self.assertEqual(stepped(at(("fun", NAT, V1), wide(590)), (), {}), V0)
        self.assertEqual(stepped(("first", ("pair", NAT, X, deep(38))), (), {}), X)
        self.assertEqual(stepped(("second", ("pair", NAT, wide(500), X)), (), {}), X)

    def test_growing_things_by_all_rules(self):
        for thing in many_terms(200, 27):
            for place, rule in steps_of(thing, WILD):
                try:
                    self.assertTrue(is_term(stepped(thing, place, WILD)))
                except Great:
                    pass


class StepRefusalTest(unittest.TestCase):
    """Point 13."""

    NOT_THERE = ((-1,), (2,), (0, 2), (0, -1), (1, 0), (-2, 0), (0, 0, 0), (10 ** 30,), (True,), (False,), (0,) * 50)

    def test_places_that_are_not_there(self):
        thing = at(("fun", NAT, V0), ZERO)
        for place in self.NOT_THERE:
            assert_refused(self, NoPlace, stepped, thing, place, {})
        assert_refused(self, NoPlace, stepped, ("name", "told"), (0,), BOOK)
        assert_refused(self, NoPlace, stepped, ("name", "nowhere"), (0,), BOOK)
        assert_refused(self, NoPlace, stepped, NAT, (0,), BOOK)

    def test_places_at_which_nothing_steps(self):
        thing = ("app", at(("fun", NAT, V0), ZERO), X)
        for place in ((), (0, 0), (0, 1), (0, 0, 0), (0, 0, 1), (1,)):
            assert_refused(self, NoStep, stepped, thing, place, {})
        self.assertEqual(stepped(thing, (0,), {}), ("app", ZERO, X))

    def test_no_place_ahead_of_no_step_ahead_of_great(self):
        growing = at(("fun", NAT, ("app", V0, V0)), wide(400))
        assert_refused(self, Great, stepped, growing, (), {})
        assert_refused(self, NoPlace, stepped, growing, (2,), {})
        assert_refused(self, NoPlace, stepped, growing, (-1,), {})
        assert_refused(self, NoStep, stepped, growing, (0,), {})
        assert_refused(self, NoPlace, stepped, ("app", growing, X), (1, 0), {})
        assert_refused(self, NoStep, stepped, ("app", growing, X), (1,), {})


class StepsKeepNothingTest(unittest.TestCase):
    """Point 1."""

    def test_the_book_stays_and_nothing_is_kept(self):
        book = dict(BOOK)
        thing = ("app", ("name", "told"), at(("name", "body"), ZERO))
        self.assertEqual(stepped(thing, (0,), book)[1], ("next", ZERO))
        self.assertEqual(len(steps_of(thing, book)), 2)
        rule_of(("name", "told"), book)
        self.assertEqual(list(book.items()), list(BOOK.items()))
        book["told"] = (NAT, ZERO)
        self.assertEqual(stepped(thing, (0,), book)[1], ZERO)
        del book["told"]
        self.assertEqual(steps_of(thing, book), [((1, 0), "name")])
        self.assertIsNone(rule_of(("name", "told"), book))
        assert_refused(self, NoStep, stepped, thing, (0,), book)

    def test_a_list_that_is_changed_changes_no_later_answer(self):
        thing = ("next", ("name", "told"))
        told = steps_of(thing, BOOK)
        told.append(((), "fun"))
        told[0] = None
        self.assertEqual(steps_of(thing, BOOK), [((0,), "name")])
        empty = steps_of(ZERO, BOOK)
        empty.append(1)
        self.assertEqual(steps_of(ZERO, BOOK), [])


if __name__ == "__main__":
    unittest.main()
