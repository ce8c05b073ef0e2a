import unittest

from keeper.errors import Dry, Great, NoPlace, NoStep
from keeper.normal import normal, walked
from keeper.steps import stepped, steps_of
from keeper.things import size_of
from tests.books import SOUND, WILD, at, number, plus, row_of_names
from tests.refusals import assert_refused
from tests.samples import KINDS, NAT, TERMS, V0, V1, V2, ZERO, deep, many_kinds, many_terms, under, var, wide

X = ("name", "x")
SOME = ("some", NAT, NAT)
SELF = ("fun", NAT, ("app", V0, V0))
ENDLESS = ("app", SELF, SELF)
# Each step doubles what stands to the right, so it is too great after some steps.
DOUBLING = ("fun", NAT, ("fun", NAT, at(V1, V1, ("app", V0, V0))))


def doubling(start):
    return at(DOUBLING, DOUBLING, start)


def by_hand(thing, fuel, book):
    """What point 14 says, by the functions of point 13."""
    log = []
    while steps_of(thing, book):
        if len(log) == fuel:
            return Dry
        try:
            thing = stepped(thing, steps_of(thing, book)[0][0], book)
        except Great:
            return Great
        log.append(steps_of(thing, book))
    return thing, len(log)


class NormalTest(unittest.TestCase):
    """Point 14."""

    def test_where_nothing_steps(self):
        for thing in KINDS + TERMS:
            self.assertEqual(normal(thing, 10, {}), (thing, []))
            self.assertEqual(normal(thing, 0, {}), (thing, []))

    def test_one_step_by_each_rule(self):
        like, pair = ("like", NAT, X), ("pair", SOME, X, V0)
        for rule, thing, wanted in (
            ("fun", at(("fun", NAT, V0), X), X),
            ("zero", ("rec", NAT, X, V0, ZERO), X),
            ("like", ("carry", NAT, X, like), X),
            ("first", ("first", pair), X),
            ("second", ("second", pair), V0),
            ("name", ("name", "two"), number(2)),
        ):
            self.assertEqual(normal(thing, 1, SOUND), (wanted, [((), rule)]))
            self.assertEqual(normal(under(3, thing), 1, SOUND), (under(3, wanted), [((1, 1, 1), rule)]))
        self.assertEqual(normal(("rec", NAT, X, V0, ("next", V1)), 1, SOUND),
                         (at(V0, V1, ("rec", NAT, X, V0, V1)), [((), "next")]))

    def test_always_at_the_first_place(self):
        # Whether what stands within would step too is not asked while the whole does.
        self.assertEqual(normal(at(("fun", NAT, ZERO), ENDLESS), 1, {}), (ZERO, [((), "fun")]))
        self.assertEqual(normal(("first", ("pair", SOME, X, ENDLESS)), 1, {}), (X, [((), "first")]))
        self.assertEqual(normal(("rec", ("same", NAT, ENDLESS, V0), X, ENDLESS, ZERO), 5, {}), (X, [((), "zero")]))
        two, cut = ("name", "two"), ("rec", NAT, ZERO, X, ZERO)
        self.assertEqual(normal(("app", two, ("app", cut, two)), 3, SOUND), (
            ("app", number(2), ("app", ZERO, number(2))), [((0,), "name"), ((1, 0), "zero"), ((1, 1), "name")]))
        # What steps only after a step within stands ahead of what lies behind.
        choose = at(("first", ("pair", SOME, ("fun", NAT, X), V0)), two)
        self.assertEqual(normal(choose, 2, SOUND), (X, [((0,), "first"), ((), "fun")]))
        self.assertEqual(normal(("rec", NAT, X, V0, ("app", ("fun", NAT, V0), ZERO)), 2, SOUND),
                         (X, [((3,), "fun"), ((), "zero")]))
        same = ("same", NAT, two, at(("fun", NAT, V0), two))
        self.assertEqual(normal(same, 9, SOUND), (
            ("same", NAT, number(2), number(2)), [((1,), "name"), ((2,), "fun"), ((2,), "name")]))

    def test_a_longer_log_in_full(self):
        function = ("fun", NAT, ("fun", NAT, ("next", V0)))
        self.assertEqual(normal(("rec", NAT, X, function, ("next", ZERO)), 10, {}), (
            ("next", X), [((), "next"), ((0,), "fun"), ((), "fun"), ((0,), "zero")]))

    def test_sums_and_products(self):
        for one in range(5):
            for other in range(4):
                self.assertEqual(normal(plus(number(one), number(other)), 1000, SOUND)[0], number(one + other))
                product = at(("name", "times"), number(one), number(other))
                self.assertEqual(normal(product, 1000, SOUND)[0], number(one * other))

    def test_as_by_hand(self):
        for thing in many_terms(250, 31) + many_kinds(150, 32):
            for fuel in (0, 1, 2, 30):
                wanted = by_hand(thing, fuel, SOUND)
                if wanted in (Dry, Great):
                    assert_refused(self, wanted, normal, thing, fuel, SOUND)
                else:
                    came, log = normal(thing, fuel, SOUND)
                    self.assertEqual((came, len(log)), wanted)

    def test_the_log_walked_comes_to_the_same(self):
        things = [plus(number(3), number(4)), at(("name", "times"), number(2), number(3)), under(3, ("name", "fact"))]
        for thing in things + many_terms(150, 33) + many_kinds(100, 34):
            try:
                came, log = normal(thing, 100, SOUND)
            except (Dry, Great):
                continue
            self.assertEqual(walked(thing, log, SOUND), came)
            self.assertEqual(walked(thing, tuple(log), SOUND), came)
            self.assertEqual(steps_of(came, SOUND), [])
            here = thing
            for row in log:
                self.assertEqual(row, steps_of(here, SOUND)[0])
                here = stepped(here, row[0], SOUND)

    def test_forms(self):
        told = normal(("next", ("name", "two")), 5, SOUND)
        self.assertEqual([type(part) for part in (told, told[1], told[1][0], told[1][0][0])],
                         [tuple, list, tuple, tuple])

    def test_long_rows_of_names(self):
        book, names = row_of_names(3000)
        came, log = normal(("name", names[0]), 3000, book)
        self.assertEqual((came, log), (ZERO, [((), "name")] * 3000))
        self.assertEqual(walked(("name", names[0]), log, book), ZERO)
        assert_refused(self, Dry, normal, ("name", names[0]), 2999, book)
        pair = ("app", ("name", names[2000]), under(5, ("name", names[2500])))
        self.assertEqual(normal(pair, 1500, book)[1], [((0,), "name")] * 1000 + [((1,) * 6, "name")] * 500)


class FuelTest(unittest.TestCase):
    """Point 14."""

    def test_just_enough_and_one_less(self):
        for thing in (plus(number(2), number(3)), ("name", "four"), under(4, ("name", "two")),
                      ("same", NAT, ("name", "four"), ("name", "two")), ("rec", NAT, ZERO, X, ZERO)):
            came, log = normal(thing, 1000, SOUND)
            self.assertGreater(len(log), 0)
            self.assertEqual(normal(thing, len(log), SOUND), (came, log))
            self.assertEqual(normal(thing, len(log) + 1, SOUND), (came, log))
            for fuel in (len(log) - 1, 0):
                assert_refused(self, Dry, normal, thing, fuel, SOUND)

    def test_without_end(self):
        for fuel in (0, 1, 2, 1000):
            for thing in (ENDLESS, ("name", "loop"), ("name", "ping"), under(9, ENDLESS),
                          ("all", NAT, ("same", NAT, ZERO, ("name", "pong")))):
                assert_refused(self, Dry, normal, thing, fuel, WILD)

    def test_fuel_below_nought_is_not_refused_for_itself(self):
        self.assertEqual(normal(ZERO, -1, {}), (ZERO, []))
        assert_refused(self, Dry, normal, ENDLESS, -1, {})

    def test_dry_where_the_next_step_would_be_too_great(self):
        growing = at(("fun", NAT, ("app", V0, V0)), wide(400))
        assert_refused(self, Great, stepped, growing, (), {})
        assert_refused(self, Dry, normal, growing, 0, {})
        assert_refused(self, Great, normal, growing, 1, {})
        later = ("app", ("rec", NAT, X, X, ZERO), growing)
        assert_refused(self, Dry, normal, later, 0, {})
        assert_refused(self, Dry, normal, later, 1, {})
        assert_refused(self, Great, normal, later, 2, {})
        assert_refused(self, Great, normal, later, 10 ** 9, {})

    def test_great_ahead_of_dry(self):
        # A step is too great after just so many, and without that it would go on without end.
        counts = []
        for fuel in range(60):
            try:
                normal(doubling(ZERO), fuel, {})
            except Dry:
                counts.append(fuel)
            except Great:
                pass
        self.assertEqual(counts, list(range(len(counts))))
        self.assertIn(len(counts), range(5, 40))
        assert_refused(self, Dry, normal, doubling(ZERO), len(counts) - 1, {})
        assert_refused(self, Great, normal, doubling(ZERO), len(counts), {})
        # The fortieth step would be the first to come to something 41 deep.
        self.assertEqual(normal(deep(11, ("name", "thirty")), 1, WILD)[0], deep(40))
        for fuel in (0, 39):
            assert_refused(self, Dry, normal, ("name", "grow"), fuel, WILD)
        for fuel in (40, 41, 1000):
            assert_refused(self, Great, normal, ("name", "grow"), fuel, WILD)

    def test_steps_at_the_bounds(self):
        twice = ("next", ("app", V0, V0))
        self.assertEqual(size_of(normal(at(("fun", NAT, twice), wide(299)), 5, {})[0]), 600)
        assert_refused(self, Great, normal, at(("fun", NAT, ("next", twice)), wide(299)), 5, {})
        self.assertEqual(normal(at(("fun", NAT, under(3, var(3))), var(96)), 5, {})[0], under(3, var(99)))
        assert_refused(self, Great, normal, at(("fun", NAT, under(3, var(3))), var(97)), 5, {})
        # It would be small again by the step behind that one, but each step counts.
        small_again = at(("fun", NAT, at(("fun", NAT, ("fun", NAT, V1)), V0, ("app", V0, V0))), wide(299))
        assert_refused(self, Great, normal, small_again, 5, {})


class WalkedTest(unittest.TestCase):
    """Point 15."""

    THING = ("app", at(("fun", NAT, V0), ("name", "two")), ("rec", NAT, ("name", "two"), X, ZERO))

    def test_along_any_log(self):
        two = number(2)
        for log, wanted in (
            ([], self.THING),
            ([((1,), "zero")], ("app", self.THING[1], ("name", "two"))),
            ([((1,), "zero"), ((1,), "name")], ("app", self.THING[1], two)),
            ([((0, 1), "name"), ((0,), "fun")], ("app", two, self.THING[2])),
            ([((1, 1), "name"), ((0,), "fun"), ((1,), "zero"), ((0,), "name")], ("app", two, two)),
        ):
            self.assertEqual(walked(self.THING, log, SOUND), wanted)
            self.assertEqual(walked(self.THING, tuple(log), SOUND), wanted)

    def test_a_wrong_rule(self):
        for log in (
            [((0,), "zero")], [((0,), "")], [((0,), "Fun")], [((0,), "app")], [((1,), "next")], [((1,), "fun")],
            [((0, 1), "fun")], [((0,), "fun"), ((0,), "fun")], [((1,), "zero"), ((1,), "zero")],
            [((), "fun")], [((), "")], [((1, 3), "zero")], [((1, 2), "name")],
        ):
            assert_refused(self, NoStep, walked, self.THING, log, SOUND)
            assert_refused(self, NoStep, walked, self.THING, tuple(log), SOUND)
        assert_refused(self, NoStep, walked, self.THING, [((0, 1), "name")], {})

    def test_where_nothing_steps_no_rule_is_right(self):
        for rule in ("", "none", "None", "fun", "name", None):
            assert_refused(self, NoStep, walked, ZERO, [((), rule)], SOUND)

    def test_a_place_that_is_not_there(self):
        for place in ((2,), (-1,), (0, 2), (1, 4), (1, -1), (0, 1, 0), (True,), (0,) * 70):
            for rule in ("fun", "zero", "name", ""):
                assert_refused(self, NoPlace, walked, self.THING, [(place, rule)], SOUND)
        assert_refused(self, NoPlace, walked, self.THING, [((0,), "fun"), ((0, 1), "name")], SOUND)

    def test_a_row_too_many_or_in_another_order(self):
        came, log = normal(self.THING, 10, SOUND)
        self.assertEqual(walked(self.THING, log, SOUND), came)
        assert_refused(self, NoStep, walked, self.THING, log + [log[-1]], SOUND)
        assert_refused(self, NoStep, walked, self.THING, log + [((), "fun")], SOUND)
        assert_refused(self, NoPlace, walked, self.THING, log + [((7,), "fun")], SOUND)
        assert_refused(self, NoStep, walked, self.THING, log[1:], SOUND)

    def test_no_place_and_no_step_ahead_of_great(self):
        growing = at(("fun", NAT, ("app", V0, V0)), wide(400))
        assert_refused(self, Great, walked, growing, [((), "fun")], {})
        assert_refused(self, NoStep, walked, growing, [((), "zero")], {})
        assert_refused(self, NoStep, walked, growing, [((0,), "fun")], {})
        assert_refused(self, NoPlace, walked, growing, [((2,), "fun")], {})
        assert_refused(self, NoPlace, walked, growing, [((-2,), "fun")], {})

    def test_row_by_row(self):
        # No later row is looked at behind a step that is refused.
        growing = ("app", at(("fun", NAT, ("app", V0, V0)), wide(400)), ("rec", NAT, X, X, ZERO))
        self.assertEqual(walked(growing, [((1,), "zero")], {})[2], X)
        assert_refused(self, Great, walked, growing, [((1,), "zero"), ((0,), "fun")], {})
        assert_refused(self, Great, walked, growing, [((0,), "fun"), ((1,), "zero")], {})
        assert_refused(self, NoStep, walked, growing, [((1,), "next"), ((0,), "fun")], {})
        assert_refused(self, NoStep, walked, growing, [((1,), "fun"), ((5,), "fun")], {})
        assert_refused(self, NoPlace, walked, growing, [((5,), "fun"), ((1,), "fun")], {})

    def test_each_step_within_the_bounds(self):
        small_again = at(("fun", NAT, at(("fun", NAT, ("fun", NAT, V1)), V0, ("app", V0, V0))), wide(299))
        assert_refused(self, Great, walked, small_again, [((), "fun"), ((0,), "fun"), ((), "fun")], {})
        self.assertEqual(walked(small_again, [((0, 1, 0), "fun")], {})[0], "app")
        grow = [((0,) * count, "name") for count in range(40)]
        self.assertEqual(walked(("name", "grow"), grow[:39], WILD), deep(40, ("name", "grow")))
        assert_refused(self, Great, walked, ("name", "grow"), grow, WILD)


class NormalKeepsNothingTest(unittest.TestCase):
    """Point 1."""

    def test_the_log_told_is_the_askers_own(self):
        thing = plus(number(1), number(1))
        came, log = normal(thing, 100, SOUND)
        kept = list(log)
        log.append(((), "fun"))
        log[0] = None
        self.assertEqual(normal(thing, 100, SOUND), (came, kept))
        empty = normal(ZERO, 5, {})[1]
        empty.append(1)
        self.assertEqual(normal(ZERO, 5, {}), (ZERO, []))

    def test_what_is_handed_in_stays(self):
        book = dict(SOUND)
        thing = plus(number(1), number(1))
        came, log = normal(thing, 100, book)
        handed = list(log)
        walked(thing, handed, book)
        self.assertEqual(handed, log)
        for refusal, wrong in ((NoPlace, [((9,), "fun")]), (NoStep, log + log)):
            handed = list(wrong)
            assert_refused(self, refusal, walked, thing, handed, book)
            self.assertEqual(handed, wrong)
        self.assertEqual(list(book.items()), list(SOUND.items()))

    def test_a_book_or_log_changed_behind_the_call(self):
        book = {"told": (NAT, number(1))}
        told = normal(("name", "told"), 5, book)
        log = list(told[1])
        ended = walked(("name", "told"), log, book)
        book["told"] = (NAT, number(7))
        log.clear()
        self.assertEqual(told, (number(1), [((), "name")]))
        self.assertEqual(ended, number(1))
        self.assertEqual(normal(("name", "told"), 5, book)[0], number(7))
        book.clear()
        self.assertEqual(normal(("name", "told"), 5, book), (("name", "told"), []))


if __name__ == "__main__":
    unittest.main()
