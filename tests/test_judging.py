import unittest

from keeper.equality import alike
from keeper.errors import Dry, Great, NoName, NotAll, NotSame, NotSome, NoVariable, Unlike
from keeper.judging import kind_at, kind_of, let_by
from keeper.normal import normal
from keeper.putting import lifted, put_in
from keeper.things import depth_of, size_of
from tests.books import PLUS_KIND, SOUND, TO_NAT, TURN_KIND, at, number, plus, wide_nat
from tests.refusals import assert_refused
from tests.samples import KINDS, NAT, NONE, V0, V1, V2, V3, ZERO, deep, deep_kind, under, var

FUEL = 100
TWO, FOUR = ("name", "two"), ("name", "four")
SOME = ("some", NAT, NAT)
LIKE = ("like", NAT, ZERO)
KEEP = ("fun", NAT, ("fun", NAT, V0))


def same(one, other):
    return ("same", NAT, one, other)


# A term for each refusal, whatever the context (of fewer than 90 kinds).
BAD = (
    (NoVariable, var(90)),
    (NoName, ("name", "nowhere")),
    (NotAll, ("app", ZERO, ZERO)),
    (NotSome, ("first", ZERO)),
    (NotSame, ("carry", NAT, ZERO, ZERO)),
    (Unlike, ("next", LIKE)),
)
BAD_KINDS = tuple((refusal, same(term, ZERO)) for refusal, term in BAD)


class KindAtTest(unittest.TestCase):
    """Point 18."""

    def test_as_the_whole_context_sees_it(self):
        context = [same(V0, V1), ("all", NAT, same(V0, V1)), NAT]
        self.assertEqual(kind_at(context, 0), same(V1, V2))
        self.assertEqual(kind_at(context, 1), ("all", NAT, same(V0, V3)))
        self.assertEqual(kind_at(context, 2), NAT)

    def test_lists_and_tuples(self):
        context = [NAT, same(V0, V0), NAT]
        for number_of in range(3):
            self.assertEqual(kind_at(tuple(context), number_of), kind_at(context, number_of))
        self.assertEqual(kind_at((same(V2, ZERO),), 0), same(V3, ZERO))

    def test_any_list_of_kinds(self):
        self.assertEqual(kind_at([same(LIKE, ("name", "nowhere"))], 0), same(LIKE, ("name", "nowhere")))
        for kind in KINDS:
            self.assertEqual(kind_at([NAT, kind], 1)[0], kind[0])

    def test_a_variable_that_the_context_has_not(self):
        for context in ([], (), [NAT], [NAT] * 3, (NAT, NAT)):
            for wrong in (len(context), len(context) + 1, 99, 100, -1, -2, 10 ** 30):
                assert_refused(self, NoVariable, kind_at, context, wrong)
        for truth in (True, False):
            assert_refused(self, NoVariable, kind_at, [NAT, NAT], truth)

    def test_up_to_ninety_nine(self):
        self.assertEqual(kind_at([same(var(98), V0)], 0), same(var(99), V1))
        assert_refused(self, Great, kind_at, [same(var(99), V0)], 0)
        context = [same(V0, ZERO)] * 101
        self.assertEqual(kind_at(context, 98), same(var(99), ZERO))
        assert_refused(self, Great, kind_at, context, 99)
        assert_refused(self, Great, kind_at, context, 100)
        assert_refused(self, NoVariable, kind_at, context, 101)
        self.assertEqual(kind_at([NAT] * 101, 100), NAT)
        self.assertEqual(kind_at([("all", NAT, same(V0, V0))] * 101, 100), ("all", NAT, same(V0, V0)))


class LetByTest(unittest.TestCase):
    """Point 19."""

    def test_each_kind(self):
        for context in ([], (), [NAT], (NONE,)):
            for kind in (NAT, NONE, ("all", NAT, NAT), ("some", NONE, NAT), same(ZERO, number(3)),
                         ("all", NAT, ("some", NAT, same(V0, V1))), ("same", same(ZERO, ZERO), LIKE, LIKE)):
                self.assertIs(let_by(context, kind, 0, {}), True)
        self.assertIs(let_by([NAT], same(V0, ZERO), 0, {}), True)
        self.assertIs(let_by([], PLUS_KIND, 0, {}), True)
        self.assertIs(let_by([], same(TWO, FOUR), 0, SOUND), True)

    def test_the_second_part_sees_the_first_one(self):
        for word in ("all", "some"):
            self.assertIs(let_by([], (word, NAT, same(V0, V0)), 0, {}), True)
            self.assertIs(let_by((), (word, same(ZERO, ZERO), ("same", same(ZERO, ZERO), V0, LIKE)), 0, {}), True)
            assert_refused(self, NoVariable, let_by, [], (word, NAT, same(V0, V1)), 0, {})
            assert_refused(self, NoVariable, let_by, [], (word, same(V0, V0), NAT), 0, {})
            assert_refused(self, Unlike, let_by, [], (word, NONE, same(V0, ZERO)), 0, {})
            self.assertIs(let_by([NONE, NAT], (word, NAT, same(V0, V2)), 0, {}), True)
            assert_refused(self, Unlike, let_by, [NONE, NAT], (word, NAT, same(V0, V1)), 0, {})

    def test_same(self):
        fact = same(ZERO, ZERO)
        assert_refused(self, Unlike, let_by, [], same(LIKE, ZERO), FUEL, {})
        assert_refused(self, Unlike, let_by, [], same(ZERO, LIKE), FUEL, {})
        assert_refused(self, Unlike, let_by, [], ("same", NONE, ZERO, ZERO), FUEL, {})
        assert_refused(self, Unlike, let_by, [], ("same", fact, LIKE, ("like", NAT, number(1))), FUEL, {})
        self.assertIs(let_by([], ("same", same(FOUR, number(4)), ("name", "fact"), ("like", NAT, plus(TWO, TWO))),
                             FUEL, SOUND), True)

    def test_each_refusal_by_its_order(self):
        for refusal, kind in BAD_KINDS:
            term = kind[2]
            for bad in (kind, same(ZERO, term), ("all", kind, NAT), ("some", kind, NAT), ("all", NAT, kind),
                        ("some", NAT, kind), ("same", kind, ZERO, ZERO), ("all", NAT, ("some", NAT, kind))):
                assert_refused(self, refusal, let_by, [], bad, FUEL, {})
                assert_refused(self, refusal, let_by, (NAT,), bad, FUEL, {})
            for later, other in BAD_KINDS:
                for word in ("all", "some"):
                    assert_refused(self, refusal, let_by, [], (word, kind, other), FUEL, {})
                assert_refused(self, refusal, let_by, [], same(term, other[2]), FUEL, {})
                assert_refused(self, refusal, let_by, [], ("same", kind, other[2], other[2]), FUEL, {})

    def test_fuel(self):
        kind = ("same", same(TWO, number(2)), ("like", NAT, TWO), ("like", NAT, number(2)))
        self.assertIs(let_by([], kind, 2, SOUND), True)
        for fuel in (0, 1):
            assert_refused(self, Dry, let_by, [], kind, fuel, SOUND)


class FormsTest(unittest.TestCase):
    """Point 20: each form of term that is let by."""

    def assert_kind(self, wanted, context, term, fuel=FUEL, book=SOUND):
        self.assertEqual(kind_of(context, term, fuel, book), wanted)
        self.assertEqual(kind_of(tuple(context), term, fuel, book), wanted)

    def test_var(self):
        context = [same(V0, V1), ("all", NAT, NAT), NAT]
        for place in range(3):
            self.assert_kind(kind_at(context, place), context, var(place), 0)

    def test_zero_and_next(self):
        self.assert_kind(NAT, [], ZERO, 0, {})
        self.assert_kind(NAT, [], number(39), 0, {})
        self.assert_kind(NAT, [NONE, NAT], ("next", V1), 0, {})
        self.assert_kind(NAT, [], ("next", plus(TWO, FOUR)), 0)

    def test_name(self):
        self.assert_kind(NAT, [], TWO, 0)
        self.assert_kind(PLUS_KIND, [NONE, NAT], ("name", "plus"), 0)
        self.assert_kind(same(FOUR, number(4)), [], ("name", "fact"), 0)

    def test_fun(self):
        self.assert_kind(TO_NAT, [], ("fun", NAT, V0), 0)
        self.assert_kind(("all", NONE, NAT), [], ("fun", NONE, ZERO), 0)
        self.assert_kind(("all", NAT, same(V0, V0)), [], ("fun", NAT, ("like", NAT, V0)), 0)
        self.assert_kind(("all", same(V0, ZERO), same(V1, ZERO)), [NAT], ("fun", same(V0, ZERO), V0), 0)
        self.assert_kind(("all", NAT, ("all", NONE, same(V1, V3))), [NAT, NAT, NAT],
                         under(1, ("fun", NONE, ("never", same(V1, V3), V0))), 0)
        self.assert_kind(deep_kind(40), [], under(39, V0), 0)

    def test_app(self):
        self.assert_kind(NAT, [], at(("fun", NAT, V0), ZERO), 0)
        self.assert_kind(TO_NAT, [], at(("name", "plus"), ZERO), 0)
        context = [("all", NAT, ("all", NAT, same(V0, ("next", V1)))), NAT]
        self.assert_kind(("all", NAT, same(V0, ("next", V2))), context, at(V0, V1))
        self.assert_kind(same(ZERO, ("next", V1)), context, at(V0, V1, ZERO))
        self.assert_kind(("all", same(TWO, FOUR), same(FOUR, TWO)), [], at(("name", "turn"), TWO, FOUR))
        # Nothing of what is told is reduced.
        self.assert_kind(same(at(("fun", NAT, V0), ZERO), at(("fun", NAT, V0), ZERO)), [],
                         at(("fun", NAT, ("like", NAT, V0)), at(("fun", NAT, V0), ZERO)))

    def test_rec(self):
        self.assert_kind(NAT, [], ("rec", NAT, ZERO, KEEP, number(3)), 0)
        equal = same(V0, V0)
        step = ("fun", NAT, ("fun", equal, ("like", NAT, ("next", V1))))
        self.assert_kind(same(TWO, TWO), [], ("rec", equal, LIKE, step, TWO))
        self.assert_kind(same(V0, V0), [NAT], ("rec", equal, LIKE, step, V0))

    def test_like(self):
        self.assert_kind(same(ZERO, ZERO), [], LIKE, 0)
        self.assert_kind(same(TWO, TWO), [], ("like", NAT, TWO), 0)
        self.assert_kind(("same", TO_NAT, ("name", "x"), ("name", "x")), [], ("like", TO_NAT, ("name", "x")),
                         0, {"x": (TO_NAT, ("fun", NAT, V0))})
        self.assert_kind(("same", same(TWO, TWO), LIKE, LIKE), [], ("like", same(TWO, TWO), LIKE), FUEL,
                         {"two": (NAT, ZERO)})

    def test_carry(self):
        # Of (same nat 0 1) in the context, what is told of 0 is taken for 1.
        context = [same(V0, V1), NAT, NAT]
        over = ("all", NAT, same(V1, V0))
        term = ("carry", over, ("name", "x"), V0)
        book = {"x": (("all", NAT, same(V0, V0)), ("fun", NAT, ("like", NAT, V0)))}
        assert_refused(self, Unlike, kind_of, context, term, FUEL, book)
        self.assert_kind(same(V2, V1), context, ("carry", same(V0, V2), ("like", NAT, V1), V0))
        self.assert_kind(same(V1, V2), context, ("carry", same(V2, V0), ("like", NAT, V1), V0))
        assert_refused(self, Unlike, kind_of, context, ("carry", same(V0, V3), ("like", NAT, V1), V0), FUEL, {})
        self.assert_kind(NAT, context, ("carry", NAT, V2, V0))
        self.assert_kind(same(ZERO, ZERO), [], ("carry", same(V0, ZERO), LIKE, LIKE))
        self.assert_kind(TURN_KIND, [], SOUND["turn"][1])

    def test_carry_over_another_kind_than_nat(self):
        context = [("same", TO_NAT, V0, V1), TO_NAT, TO_NAT]
        over = same(at(V0, ZERO), at(V2, ZERO))
        self.assert_kind(same(at(V2, ZERO), at(V1, ZERO)), context,
                         ("carry", over, ("like", NAT, at(V1, ZERO)), V0))
        assert_refused(self, NotAll, kind_of, [same(V0, V1), NAT, NAT], ("carry", over, LIKE, V0), FUEL, {})

    def test_never(self):
        for kind in (NAT, NONE, SOME, same(ZERO, number(1)), ("all", NAT, same(V0, V2))):
            self.assert_kind(kind, [NONE, NAT], ("never", kind, V0), 0)
        self.assert_kind(("all", NONE, NONE), [], ("fun", NONE, ("never", NONE, V0)), 0)

    def test_pair(self):
        self.assert_kind(SOME, [], ("pair", SOME, ZERO, TWO), 0)
        kind = ("some", NAT, same(V0, number(2)))
        self.assert_kind(kind, [], ("pair", kind, TWO, ("like", NAT, TWO)))
        self.assert_kind(kind, [], ("pair", kind, number(2), ("like", NAT, TWO)))
        speaks = ("some", NAT, same(V0, V1))
        self.assert_kind(speaks, [NAT], ("pair", speaks, V0, ("like", NAT, V0)), 0)
        assert_refused(self, Unlike, kind_of, [NAT], ("pair", speaks, ZERO, ("like", NAT, V0)), 0, {})

    def test_first_and_second(self):
        kind = ("some", NAT, same(V0, V2))
        context = [kind, NAT, NAT]
        self.assert_kind(NAT, context, ("first", V0), 0)
        self.assert_kind(same(("first", V0), V2), context, ("second", V0), 0)
        pair = ("pair", SOME, ZERO, TWO)
        self.assert_kind(NAT, [], ("first", pair), 0)
        self.assert_kind(NAT, [], ("second", pair), 0)
        of_pairs = ("some", SOME, same(("first", V0), ("second", V0)))
        self.assert_kind(same(("first", ("first", V0)), ("second", ("first", V0))), [of_pairs], ("second", V0), 0)

    def test_kinds_that_are_alike_but_not_the_same(self):
        two_is_two = same(TWO, number(2))
        self.assert_kind(NAT, [], at(("fun", two_is_two, ZERO), ("like", NAT, TWO)))
        self.assert_kind(NAT, [two_is_two], at(("fun", same(number(2), number(2)), ZERO), V0))
        self.assert_kind(NAT, [("all", two_is_two, NAT)], at(V0, ("like", NAT, at(("fun", NAT, V0), TWO))))
        self.assert_kind(("same", two_is_two, ("like", NAT, TWO), ("like", NAT, TWO)), [],
                         ("like", two_is_two, ("like", NAT, TWO)))
        assert_refused(self, Unlike, kind_of, [], at(("fun", same(TWO, FOUR), ZERO), ("like", NAT, TWO)), FUEL, SOUND)

    def test_a_kind_of_a_book_is_not_that_of_another_one(self):
        self.assert_kind(same(ZERO, ZERO), [], ("name", "told"), 0, {"told": (same(ZERO, ZERO), LIKE)})
        assert_refused(self, NoName, kind_of, [], ("name", "told"), 0, SOUND)
        assert_refused(self, NoName, kind_of, [], TWO, 0, {})


class StepKindTest(unittest.TestCase):
    """Point 20: the kind of rec's s."""

    def assert_step(self, over, behind, context):
        """Over P the s must be of (all nat (all P Q)), Q being `behind`; the first kind of the context is none."""
        wanted = put_in(over, ZERO, 0)
        start = ("never", wanted, V0)
        for given in (behind, NONE):
            step = ("fun", NAT, ("fun", over, ("never", given, V2)))
            term = ("rec", over, start, step, ZERO)
            if given == behind:
                self.assertEqual(kind_of(context, term, 0, {}), wanted)
            else:
                assert_refused(self, Unlike, kind_of, context, term, 0, {})

    def test_plainly(self):
        context = [NONE, NAT, NAT, NAT]
        for over, behind in (
            (NAT, NAT),
            (same(V0, ZERO), same(("next", V1), ZERO)),
            (same(V0, V0), same(("next", V1), ("next", V1))),
            (same(V2, V3), same(V3, var(4))),
            (same(V0, V2), same(("next", V1), V3)),
            (same(("next", V0), var(4)), same(("next", ("next", V1)), var(5))),
        ):
            self.assert_step(over, behind, context)

    def test_under_binders(self):
        context = [NONE, NAT, NAT, NAT]
        for over, behind in (
            (("all", NAT, same(V0, V1)), ("all", NAT, same(V0, ("next", V2)))),
            (("all", NAT, same(V1, V3)), ("all", NAT, same(("next", V2), var(4)))),
            (("all", same(V0, V2), ("some", NAT, same(V2, V0))),
             ("all", same(("next", V1), V3), ("some", NAT, same(("next", V3), V0)))),
            (("all", NAT, ("all", NAT, same(("rec", NAT, V2, KEEP, V1), var(4)))),
             ("all", NAT, ("all", NAT, same(("rec", NAT, ("next", V3), KEEP, V1), var(5))))),
        ):
            self.assert_step(over, behind, context)

    def test_what_is_almost_that_kind_is_not(self):
        context = [NONE, NAT, NAT]
        over = same(V0, V2)
        start = ("never", same(ZERO, V1), V0)
        for wrong in (same(("next", V1), V2), same(("next", V0), V3), same(V1, V3), same(("next", V1), var(4)),
                      same(("next", V1), V1), same(V1, V2)):
            step = ("fun", NAT, ("fun", over, ("never", wrong, V2)))
            assert_refused(self, Unlike, kind_of, context, ("rec", over, start, step, V1), FUEL, {})
        for wrong in (same(V0, V0), same(V1, V2), same(V0, V1), NAT):
            step = ("fun", NAT, ("fun", wrong, ("never", same(("next", V1), V3), V2)))
            assert_refused(self, Unlike, kind_of, context, ("rec", over, start, step, V1), FUEL, {})
        step = ("fun", NAT, ("fun", over, ("never", same(("next", V1), V3), V2)))
        self.assertEqual(kind_of(context, ("rec", over, start, step, V1), FUEL, {}), same(V1, V1))

    def test_up_to_ninety_nine(self):
        # On the way from 98 to 99 nothing is too great.
        context = [NONE] + [NAT] * 98
        self.assert_step(same(V0, var(98)), same(("next", V1), var(99)), context)
        self.assert_step(("all", NAT, same(V1, var(98))), ("all", NAT, same(("next", V2), var(99))), context)
        for over in (same(V0, var(99)), ("all", NAT, same(V1, var(99)))):
            start = ("never", put_in(over, ZERO, 0), V0)
            for step in (KEEP, ("name", "nowhere"), var(1)):
                assert_refused(self, Great, kind_of, context, ("rec", over, start, step, ZERO), FUEL, {})
            assert_refused(self, NoName, kind_of, context, ("rec", over, ("name", "nowhere"), KEEP, ZERO), FUEL, {})

    def test_knots(self):
        # (all nat (all P Q)) has three knots more than P and Q, and Q one more than P for each variable 0.
        for knots, one, wanted in ((295, ZERO, 599), (296, ZERO, None), (295, V0, 600), (296, V0, None)):
            over = same(one, wide_nat(knots, V2))
            term = ("rec", over, ("never", put_in(over, ZERO, 0), V0), V2, ZERO)
            step = ("all", NAT, ("all", over, same(ZERO if one == ZERO else ("next", V1), wide_nat(knots, V3))))
            if wanted is None:
                self.assertGreater(size_of(step), 600)
                assert_refused(self, Great, kind_of, [NONE, PLUS_KIND, NAT], term, 0, {})
            else:
                self.assertEqual(size_of(step), wanted)
                assert_refused(self, Unlike, kind_of, [NONE, PLUS_KIND, NAT], term, 0, {})

    def test_depth(self):
        for depth, wanted in ((37, None), (38, Great)):
            over = same(ZERO, deep(depth))
            start = ("never", over, V0)
            step = ("fun", NAT, ("fun", over, ("name", "nowhere")))
            term = ("rec", over, start, step, ZERO)
            assert_refused(self, wanted or NoName, kind_of, [NONE], term, FUEL, {})
        for depth, wanted in ((36, None), (37, Great)):
            over = same(deep(depth, V0), ZERO)
            start = ("never", same(deep(depth), ZERO), V0)
            term = ("rec", over, start, KEEP, ZERO)
            assert_refused(self, wanted or Unlike, kind_of, [NONE], term, FUEL, {})


class OrderTest(unittest.TestCase):
    """Point 20: which refusal comes first."""

    # Terms that are let by in this context, with the numbers of their children in the order in which these are
    # looked at.
    CONTEXT = [NONE, same(ZERO, number(1)), ("all", NAT, NAT), SOME]
    GOOD = (
        (("next", ZERO), (0,)),
        (("fun", NAT, V0), (0, 1)),
        (("app", V2, ZERO), (0, 1)),
        (("rec", NAT, ZERO, KEEP, ZERO), (0, 1, 2, 3)),
        (("like", NAT, ZERO), (0, 1)),
        (("carry", NAT, ZERO, V1), (2, 0, 1)),
        (("never", NAT, V0), (0, 1)),
        (("pair", SOME, ZERO, ZERO), (0, 1, 2)),
        (("first", V3), (0,)),
        (("second", V3), (0,)),
    )

    def test_the_samples_are_let_by(self):
        for term, order in self.GOOD:
            self.assertIn(kind_of(self.CONTEXT, term, 0, {})[0], ("nat", "all", "same", "some"))

    def bad_at(self, term, place, count):
        is_kind_there = term[place + 1][0] in ("nat", "none", "all", "some", "same")
        refusal, bad = (BAD_KINDS if is_kind_there else BAD)[count]
        return refusal, term[:place + 1] + (bad,) + term[place + 2:]

    def test_each_part_alone(self):
        for term, order in self.GOOD:
            for place in order:
                for count in range(len(BAD)):
                    refusal, wrong = self.bad_at(term, place, count)
                    assert_refused(self, refusal, kind_of, self.CONTEXT, wrong, FUEL, {})
                    assert_refused(self, refusal, kind_of, tuple(self.CONTEXT), wrong, FUEL, {})
                    assert_refused(self, refusal, kind_of, self.CONTEXT, under(3, lifted(wrong, 3, 0)), FUEL, {})

    def test_the_first_of_two(self):
        for term, order in self.GOOD:
            for early in range(len(order)):
                for late in range(early + 1, len(order)):
                    for one in range(len(BAD)):
                        for other in range(len(BAD)):
                            refusal, wrong = self.bad_at(term, order[late], other)
                            refusal, wrong = self.bad_at(wrong, order[early], one)
                            assert_refused(self, refusal, kind_of, self.CONTEXT, wrong, FUEL, {})

    def test_the_form_of_a_kind_ahead_of_later_parts(self):
        nowhere, nowhere_kind = ("name", "nowhere"), same(("name", "nowhere"), ZERO)
        for wrong in (ZERO, LIKE, V0, V1, V3, ("pair", SOME, ZERO, ZERO)):
            assert_refused(self, NotAll, kind_of, self.CONTEXT, ("app", wrong, nowhere), FUEL, {})
        for wrong in (ZERO, V0, V2, V3, ("fun", NAT, V0)):
            assert_refused(self, NotSame, kind_of, self.CONTEXT, ("carry", nowhere_kind, nowhere, wrong), FUEL, {})
        for wrong in (NAT, NONE, same(ZERO, ZERO), ("all", NAT, NAT)):
            assert_refused(self, NotSome, kind_of, self.CONTEXT, ("pair", wrong, nowhere, nowhere), FUEL, {})
        assert_refused(self, NoName, kind_of, self.CONTEXT, ("pair", nowhere_kind, ZERO, ZERO), FUEL, {})
        for wrong in (ZERO, LIKE, V0, V1, V2, ("fun", NAT, V0)):
            for word in ("first", "second"):
                assert_refused(self, NotSome, kind_of, self.CONTEXT, (word, wrong), FUEL, {})

    def test_unlike(self):
        one = same(number(1), number(1))
        for wrong in (
            ("next", LIKE), ("next", ("fun", NAT, V0)), at(("fun", NAT, V0), LIKE), at(("fun", NONE, V0), ZERO),
            at(("name", "plus"), ZERO, LIKE), ("rec", NAT, LIKE, KEEP, ZERO), ("rec", NAT, ZERO, ("fun", NAT, V0), ZERO),
            ("rec", NAT, ZERO, ("fun", NAT, ("fun", NONE, ZERO)), ZERO), ("rec", NAT, ZERO, KEEP, LIKE),
            ("rec", NAT, ZERO, ("fun", NAT, ("fun", NAT, LIKE)), ZERO), ("rec", NAT, ZERO, ZERO, ZERO),
            ("like", NAT, LIKE), ("like", one, LIKE), ("like", NONE, ZERO),
            ("carry", same(V0, number(1)), LIKE, LIKE), ("carry", NONE, ZERO, LIKE), ("never", NAT, ZERO),
            ("never", NAT, LIKE), ("pair", SOME, LIKE, ZERO), ("pair", SOME, ZERO, LIKE),
            ("pair", ("some", NAT, same(V0, ZERO)), number(1), LIKE),
            ("pair", ("some", NAT, same(V0, ZERO)), number(1), ("like", NAT, number(1))),
        ):
            assert_refused(self, Unlike, kind_of, [], wrong, FUEL, SOUND)

    def test_a_variable_that_the_context_has_not(self):
        for context in ([], (), [NAT], (NAT, NAT)):
            assert_refused(self, NoVariable, kind_of, context, var(len(context)), FUEL, {})
            assert_refused(self, NoVariable, kind_of, context, under(3, var(len(context) + 3)), FUEL, {})
            self.assertEqual(kind_of(context, under(1, V0), FUEL, {}), TO_NAT)


class GreatTest(unittest.TestCase):
    """Points 5 and 20: what would be too great as a kind."""

    def test_fun(self):
        for kind, wanted in ((deep_kind(39), None), (deep_kind(40), Great)):
            if wanted is None:
                self.assertEqual(kind_of([kind], ("fun", NAT, V1), FUEL, {}), ("all", NAT, kind))
            else:
                assert_refused(self, wanted, kind_of, [kind], ("fun", NAT, V1), FUEL, {})
                book = {"x": (kind, under(39, V0))}
                assert_refused(self, wanted, kind_of, [], ("fun", NAT, ("name", "x")), FUEL, book)
        self.assertEqual(size_of(kind_of([], ("fun", same(ZERO, wide_nat(298)), ("like", NAT, wide_nat(148))),
                                         FUEL, SOUND)), 1 + 301 + 298)
        assert_refused(self, Great, kind_of, [], ("fun", same(ZERO, wide_nat(299)), ("like", NAT, wide_nat(148))),
                       FUEL, SOUND)

    def test_like(self):
        self.assertEqual(size_of(kind_of([], ("like", NAT, wide_nat(299)), FUEL, SOUND)), 600)
        assert_refused(self, Great, kind_of, [], ("like", NAT, wide_nat(300)), FUEL, SOUND)
        self.assertEqual(depth_of(kind_of([], ("like", NAT, deep(39)), FUEL, SOUND)), 40)

    def test_var(self):
        context = [NAT] * 98 + [same(V0, ZERO), NAT]
        self.assertEqual(kind_of(context, var(98), 0, {}), same(var(99), ZERO))
        context = [NAT] * 99 + [same(V0, ZERO), NAT]
        assert_refused(self, Great, kind_of, context, var(99), 0, {})
        assert_refused(self, Great, kind_of, context, ("first", var(99)), 0, {})
        # By the fun's own binder the kind is lifted once more.
        context = [NAT] * 98 + [same(V0, ZERO), NAT]
        assert_refused(self, Great, kind_of, context, ("fun", NAT, var(99)), 0, {})

    def test_app(self):
        twice = ("all", NAT, same(V0, V0))
        self.assertEqual(size_of(kind_of([twice], at(V0, wide_nat(299)), FUEL, SOUND)), 600)
        assert_refused(self, Great, kind_of, [twice], at(V0, wide_nat(300)), FUEL, SOUND)
        # What it is taken at is judged ahead of what is told.
        context = [twice, PLUS_KIND]
        assert_refused(self, Unlike, kind_of, context, at(V0, ("like", NAT, wide_nat(299, V1))), FUEL, {})
        assert_refused(self, Unlike, kind_of, context, at(V0, ("never", NAT, wide_nat(300, V1))), FUEL, {})
        deep_in = ("all", NAT, same(deep(20, V0), ZERO))
        self.assertEqual(depth_of(kind_of([deep_in], at(V0, deep(20)), FUEL, SOUND)), 40)
        assert_refused(self, Great, kind_of, [deep_in], at(V0, deep(21)), FUEL, SOUND)

    def test_a_part_whose_kind_is_too_great(self):
        great = ("like", NAT, wide_nat(300))
        for term in (("next", great), ("app", great, ZERO), ("app", ("fun", NAT, V0), great), ("first", great),
                     ("second", great), ("carry", NAT, ZERO, great), ("never", NAT, great), ("fun", NAT, great),
                     ("like", NAT, great), ("pair", SOME, great, ZERO), ("rec", NAT, great, KEEP, ZERO)):
            assert_refused(self, Great, kind_of, [], term, FUEL, SOUND)
        # Though what comes of the whole would be small.
        assert_refused(self, Great, kind_of, [], at(("fun", same(ZERO, ZERO), ZERO), great), FUEL, SOUND)
        whole = at(("fun", NAT, ("fun", NAT, ZERO)), ZERO, ZERO)
        self.assertEqual(kind_of([], whole, FUEL, SOUND), NAT)

    def test_what_has_to_be_made_is_made_first(self):
        nowhere = ("name", "nowhere")
        over = same(V0, V0)
        for knots, refusal in ((299, NoName), (300, Great)):
            # carry: p of P[x].
            context = [same(wide_nat(knots), ZERO)]
            assert_refused(self, refusal, kind_of, context, ("carry", over, nowhere, V0), FUEL, SOUND)
            # pair: b of B[a].
            pair = ("pair", ("some", NAT, over), wide_nat(knots), nowhere)
            assert_refused(self, refusal, kind_of, [], pair, FUEL, SOUND)
        # rec: P[n] comes last.
        step = ("fun", NAT, ("fun", over, ("like", NAT, ("next", V1))))
        self.assertEqual(size_of(kind_of([], ("rec", over, LIKE, step, wide_nat(299)), FUEL, SOUND)), 600)
        assert_refused(self, Great, kind_of, [], ("rec", over, LIKE, step, wide_nat(300)), FUEL, SOUND)
        assert_refused(self, Unlike, kind_of, [], ("rec", over, LIKE, KEEP, wide_nat(300)), FUEL, SOUND)
        # carry: P[y] comes last.
        context = [same(ZERO, wide_nat(300))]
        assert_refused(self, Great, kind_of, context, ("carry", over, LIKE, V0), FUEL, SOUND)
        assert_refused(self, Unlike, kind_of, context, ("carry", over, ZERO, V0), FUEL, SOUND)

    def test_second(self):
        kind = ("some", NAT, same(V0, V0))
        for knots, wanted in ((144, 598), (145, None)):
            part = wide_nat(knots, V0)
            pair = ("pair", kind, part, ("like", NAT, part))
            self.assertEqual(kind_of([PLUS_KIND], ("first", pair), FUEL, {}), NAT)
            if wanted is None:
                assert_refused(self, Great, kind_of, [PLUS_KIND], ("second", pair), FUEL, {})
            else:
                self.assertEqual(size_of(kind_of([PLUS_KIND], ("second", pair), FUEL, {})), wanted)
        # Where the kind of the second one doesn't speak of the first one nothing is too great.
        pair = ("pair", SOME, wide_nat(290), wide_nat(290))
        self.assertEqual(kind_of([], ("second", pair), FUEL, SOUND), NAT)

    def test_reducing_of_kinds(self):
        double = ("fun", NAT, at(("fun", NAT, plus(V0, V0)), plus(V0, V0)))
        book = dict(SOUND)
        book["double"] = (TO_NAT, double)
        term = at(("name", "double"), at(("name", "double"), at(("name", "double"), at(("name", "double"), V0))))
        context = [NAT]
        check = at(("fun", same(V0, V0), ZERO), ("like", NAT, term))
        assert_refused(self, Great, normal, same(term, term), 10 ** 6, book)
        assert_refused(self, Great, kind_of, context, check, 10 ** 6, book)
        assert_refused(self, Dry, kind_of, context, check, 1, book)


class DryTest(unittest.TestCase):
    """Points 14 and 20."""

    def test_fuel_of_nought(self):
        self.assertEqual(kind_of([], plus(TWO, FOUR), 0, SOUND), NAT)
        self.assertEqual(kind_of([], ("like", NAT, TWO), 0, SOUND), same(TWO, TWO))
        assert_refused(self, Dry, kind_of, [], at(("fun", same(TWO, TWO), ZERO), ("like", NAT, TWO)), 0, SOUND)

    def test_one_kind_already_is_reduced_all_the_same(self):
        term = at(("fun", same(TWO, TWO), ZERO), ("like", NAT, TWO))
        self.assertEqual(kind_of([], term, 2, SOUND), NAT)
        for fuel in (0, 1):
            assert_refused(self, Dry, kind_of, [], term, fuel, SOUND)

    def test_the_whole_fuel_for_each_reducing(self):
        count = len(normal(same(FOUR, FOUR), 1000, SOUND)[1])
        fact = at(("fun", same(FOUR, FOUR), ZERO), ("like", NAT, FOUR))
        term = plus(fact, plus(fact, fact))
        self.assertEqual(kind_of([], term, count, SOUND), NAT)
        assert_refused(self, Dry, kind_of, [], term, count - 1, SOUND)

    def test_dry_comes_ahead_of_unlike(self):
        assert_refused(self, Dry, kind_of, [], ("next", ("like", NAT, TWO)), 0, SOUND)
        assert_refused(self, Unlike, kind_of, [], ("next", ("like", NAT, TWO)), 2, SOUND)
        assert_refused(self, Unlike, kind_of, [], ("next", LIKE), 0, SOUND)

    def test_its_own_kind_is_the_one(self):
        # The one is dry, the other too great, and the other way round.
        twice = at(("fun", TO_NAT, plus(at(V0, ZERO), at(V0, ZERO))), ("fun", NAT, wide_nat(300)))
        assert_refused(self, Great, normal, same(twice, ZERO), 1, SOUND)
        slow = same(FOUR, FOUR)
        assert_refused(self, Dry, normal, slow, 1, SOUND)
        for own, due, refusal in ((slow, same(twice, ZERO), Dry), (same(twice, ZERO), slow, Great)):
            self.assertIs(let_by([], own, 1, SOUND), True)
            assert_refused(self, refusal, kind_of, [own], at(("fun", due, ZERO), V0), 1, SOUND)

    def test_fuel_that_each_form_needs(self):
        for term in (
            ("pair", ("some", NAT, same(V0, number(2))), TWO, ("like", NAT, TWO)),
            ("carry", same(V0, TWO), ("like", NAT, TWO), ("like", NAT, TWO)),
            ("rec", same(TWO, TWO), ("like", NAT, TWO), ("fun", NAT, ("fun", same(TWO, TWO), V0)), ZERO),
            ("like", same(TWO, number(2)), ("like", NAT, TWO)),
        ):
            self.assertIn(kind_of([], term, FUEL, SOUND)[0], ("some", "same"))
            assert_refused(self, Dry, kind_of, [], term, 0, SOUND)


class JudgingKeepsNothingTest(unittest.TestCase):
    """Point 1."""

    def test_contexts_and_books_stay(self):
        context, book = [same(V0, V0), NAT, NONE], dict(SOUND)
        before = list(context)
        for term in (V0, under(3, V3), ("rec", NAT, ZERO, KEEP, V1), ("carry", NAT, ZERO, V0), plus(V1, TWO),
                     ("pair", SOME, V1, V1), ("never", NAT, V2)):
            kind_of(context, term, FUEL, book)
        for refusal, term in BAD:
            assert_refused(self, refusal, kind_of, context, under(2, term), FUEL, book)
        let_by(context, ("all", NAT, ("some", NAT, same(V0, V1))), FUEL, book)
        assert_refused(self, Unlike, let_by, context, ("all", NAT, same(V0, V1)), FUEL, book)
        kind_at(context, 0)
        self.assertEqual(context, before)
        self.assertEqual(list(book.items()), list(SOUND.items()))

    def test_changed_behind_the_call(self):
        context, book = [NAT], {"told": (NAT, ZERO)}
        told = kind_of(context, ("fun", NAT, V1), FUEL, book)
        named = kind_of(context, ("name", "told"), FUEL, book)
        context[0] = NONE
        book["told"] = (NONE, ZERO)
        self.assertEqual((told, named), (TO_NAT, NAT))
        self.assertEqual(kind_of(context, ("fun", NAT, V1), FUEL, book), ("all", NAT, NONE))
        self.assertEqual(kind_of(context, ("name", "told"), FUEL, book), NONE)
        context.clear()
        book.clear()
        assert_refused(self, NoVariable, kind_of, context, V0, FUEL, book)
        assert_refused(self, NoName, kind_of, context, ("name", "told"), FUEL, book)

    def test_a_refusal_changes_no_later_answer(self):
        term = at(("fun", same(TWO, TWO), ZERO), ("like", NAT, TWO))
        assert_refused(self, Dry, kind_of, [], term, 1, SOUND)
        self.assertEqual(kind_of([], term, 2, SOUND), NAT)
        assert_refused(self, Dry, kind_of, [], term, 1, SOUND)
        assert_refused(self, NoName, kind_of, [], term, 2, {})


class WithoutEndTest(unittest.TestCase):
    def test_what_steps_without_end_is_not_let_by(self):
        itself = ("fun", NAT, at(V0, V0))
        assert_refused(self, NotAll, kind_of, [], at(itself, itself), FUEL, {})
        assert_refused(self, NotAll, kind_of, [], itself, FUEL, {})
        assert_refused(self, Unlike, kind_of, [], ("fun", TO_NAT, at(V0, V0)), FUEL, {})

    def test_no_way_to_none(self):
        one = number(1)
        for term in (
            ("never", NONE, ZERO), ("never", NONE, LIKE), ("rec", NONE, ZERO, KEEP, ZERO), ("name", "nowhere"),
            ("carry", NONE, ZERO, LIKE), at(("fun", NONE, V0), ZERO), ("first", ("pair", ("some", NONE, NAT), ZERO, ZERO)),
            at(("fun", same(ZERO, one), ("never", NONE, V0)), LIKE),
            at(("fun", same(ZERO, one), ("carry", NONE, ZERO, V0)), LIKE),
        ):
            self.assertRaises(ValueError, kind_of, [], term, FUEL, {})

    def test_alike_kinds_have_alike_terms(self):
        one, other = same(TWO, number(2)), same(number(2), at(("fun", NAT, V0), TWO))
        self.assertTrue(alike(one, other, FUEL, SOUND))
        for kind in (one, other):
            self.assertEqual(kind_of([], at(("fun", kind, ZERO), ("like", NAT, TWO)), FUEL, SOUND), NAT)


if __name__ == "__main__":
    unittest.main()
