import unittest

from keeper.errors import Great
from keeper.putting import free_in, lifted, put_in
from keeper.things import size_of
from tests.naming import free_by_names, lifted_by_names, put_in_by_names
from tests.refusals import assert_refused
from tests.samples import (
    KINDS, NAT, NONE, TERMS, V0, V1, V2, V3, ZERO, deep, many_kinds, many_terms, under, var, wide,
)


def pair_of(one, other):
    return ("app", one, other)


class FreeTest(unittest.TestCase):
    """Point 8."""

    def test_without_variables(self):
        for thing in (NAT, NONE, ZERO, ("name", "plus"), ("all", NAT, NONE), ("next", ZERO)):
            self.assertEqual(free_in(thing), [])

    def test_rising_and_each_once(self):
        self.assertEqual(free_in(var(7)), [7])
        self.assertEqual(free_in(var(99)), [99])
        self.assertEqual(free_in(pair_of(pair_of(V3, V0), pair_of(V3, V1))), [0, 1, 3])
        self.assertEqual(free_in(pair_of(var(11), pair_of(var(9), var(100 - 1)))), [9, 11, 99])

    def test_under_binders(self):
        self.assertEqual(free_in(("fun", NAT, V0)), [])
        self.assertEqual(free_in(("fun", NAT, V1)), [0])
        self.assertEqual(free_in(under(3, pair_of(V2, V3))), [0])
        self.assertEqual(free_in(under(3, pair_of(V2, var(9)))), [6])
        self.assertEqual(free_in(pair_of(V0, ("fun", NAT, V1))), [0])

    def test_the_binder_stands_over_its_child_alone(self):
        same = ("same", NAT, V0, V0)
        for word in ("all", "some"):
            self.assertEqual(free_in((word, same, same)), [0])
            self.assertEqual(free_in((word, NAT, same)), [])
        self.assertEqual(free_in(("fun", same, V0)), [0])
        self.assertEqual(free_in(("rec", same, ZERO, ZERO, ZERO)), [])
        self.assertEqual(free_in(("rec", NAT, V0, V1, V2)), [0, 1, 2])
        self.assertEqual(free_in(("carry", same, ZERO, ZERO)), [])
        self.assertEqual(free_in(("carry", same, V1, V2)), [1, 2])
        for word in ("like", "never"):
            self.assertEqual(free_in((word, same, ZERO)), [0])
        self.assertEqual(free_in(("pair", same, V1, V2)), [0, 1, 2])
        self.assertEqual(free_in(("same", same, V1, V2)), [0, 1, 2])

    def test_as_by_names(self):
        for thing in many_terms(400, 4) + many_kinds(200, 5):
            self.assertEqual(free_in(thing), free_by_names(thing))

    def test_the_list_is_the_askers_own(self):
        told = free_in(V1)
        told.append(5)
        self.assertEqual(free_in(V1), [1])


class LiftedTest(unittest.TestCase):
    """Point 9."""

    def test_plainly(self):
        self.assertEqual(lifted(V0, 1, 0), V1)
        self.assertEqual(lifted(V0, 3, 0), V3)
        self.assertEqual(lifted(V0, 1, 1), V0)
        self.assertEqual(lifted(V1, 1, 1), V2)
        self.assertEqual(lifted(pair_of(V0, pair_of(V1, V2)), 5, 1), pair_of(V0, pair_of(var(6), var(7))))
        for thing in KINDS + TERMS:
            self.assertEqual(lifted(thing, 0, 0), thing)

    def test_under_binders(self):
        self.assertEqual(lifted(("fun", NAT, pair_of(V0, V1)), 2, 0), ("fun", NAT, pair_of(V0, V3)))
        self.assertEqual(lifted(under(3, pair_of(V2, V3)), 4, 0), under(3, pair_of(V2, var(7))))
        self.assertEqual(lifted(under(2, pair_of(V2, V3)), 4, 1), under(2, pair_of(V2, var(7))))
        same = ("same", NAT, V0, V1)
        self.assertEqual(
            lifted(("rec", same, V0, V1, V2), 1, 0),
            ("rec", ("same", NAT, V0, V2), V1, V2, V3),
        )
        self.assertEqual(lifted(("all", same, same), 1, 0), ("all", ("same", NAT, V1, V2), ("same", NAT, V0, V2)))

    def test_a_low_below_nought_leaves_bound_ones_alone(self):
        self.assertEqual(lifted(("fun", NAT, pair_of(V0, V1)), 2, -5), ("fun", NAT, pair_of(V0, V3)))

    def test_up_to_ninety_nine(self):
        self.assertEqual(lifted(var(98), 1, 0), var(99))
        self.assertEqual(lifted(V0, 99, 0), var(99))
        self.assertEqual(lifted(under(3, V3), 96, 0), under(3, var(99)))
        assert_refused(self, Great, lifted, var(99), 1, 0)
        assert_refused(self, Great, lifted, V0, 100, 0)
        assert_refused(self, Great, lifted, V0, 10 ** 30, 0)
        assert_refused(self, Great, lifted, under(3, V3), 97, 0)
        assert_refused(self, Great, lifted, pair_of(ZERO, ("next", var(50))), 50, 50)

    def test_what_is_not_lifted_is_never_too_great(self):
        self.assertEqual(lifted(var(99), 1, 100), var(99))
        self.assertEqual(lifted(under(3, V2), 1000, 0), under(3, V2))
        self.assertEqual(lifted(ZERO, 10 ** 30, 0), ZERO)
        self.assertEqual(lifted(var(99), 0, 0), var(99))

    def test_at_the_other_bounds(self):
        self.assertEqual(lifted(wide(600, V0), 1, 0), wide(600, V1))
        self.assertEqual(lifted(deep(40, V0), 1, 0), deep(40, V1))
        assert_refused(self, Great, lifted, wide(601, V0), 1, 0)
        assert_refused(self, Great, lifted, deep(41, V0), 1, 0)

    def test_as_by_names(self):
        for number, thing in enumerate(many_terms(400, 6) + many_kinds(200, 7)):
            by, low = number % 4, number % 7
            self.assertEqual(lifted(thing, by, low), lifted_by_names(thing, by, low))


class PutInTest(unittest.TestCase):
    """Point 10."""

    def test_plainly(self):
        self.assertEqual(put_in(V0, ZERO, 0), ZERO)
        self.assertEqual(put_in(V1, ZERO, 0), V0)
        self.assertEqual(put_in(V0, ZERO, 1), V0)
        self.assertEqual(put_in(pair_of(V0, pair_of(V1, V2)), ZERO, 1), pair_of(V0, pair_of(ZERO, V1)))
        self.assertEqual(put_in(V0, V0, 0), V0)
        self.assertEqual(put_in(pair_of(V0, V1), V1, 0), pair_of(V1, V0))
        self.assertEqual(put_in(("same", NAT, V0, V1), ("next", V0), 0), ("same", NAT, ("next", V0), V0))
        self.assertEqual(put_in(NAT, ZERO, 0), NAT)

    def test_under_binders(self):
        self.assertEqual(put_in(("fun", NAT, pair_of(V0, V1)), ZERO, 0), ("fun", NAT, pair_of(V0, ZERO)))
        self.assertEqual(put_in(("fun", NAT, pair_of(V0, V1)), V0, 0), ("fun", NAT, pair_of(V0, V1)))
        self.assertEqual(put_in(under(2, pair_of(V2, V3)), V0, 0), under(2, pair_of(V2, V2)))
        self.assertEqual(put_in(under(2, V2), pair_of(V0, V1), 0), under(2, pair_of(V2, V3)))
        self.assertEqual(put_in(under(2, V3), pair_of(V0, V1), 1), under(2, pair_of(V2, V3)))
        self.assertEqual(put_in(under(2, V3), V3, 0), under(2, V2))

    def test_bound_variables_of_what_is_put_in_stay(self):
        other = ("fun", NAT, pair_of(V0, V1))
        self.assertEqual(put_in(under(2, V2), other, 0), under(2, ("fun", NAT, pair_of(V0, V3))))

    def test_the_binder_stands_over_its_child_alone(self):
        same = ("same", NAT, V0, V1)
        self.assertEqual(
            put_in(("rec", same, V0, V1, V2), ("name", "x"), 0),
            ("rec", ("same", NAT, V0, ("name", "x")), ("name", "x"), V0, V1),
        )
        self.assertEqual(
            put_in(("carry", same, V0, V1), ("name", "x"), 0),
            ("carry", ("same", NAT, V0, ("name", "x")), ("name", "x"), V0),
        )
        self.assertEqual(
            put_in(("some", same, same), ("name", "x"), 0),
            ("some", ("same", NAT, ("name", "x"), V0), ("same", NAT, V0, ("name", "x"))),
        )

    def test_up_to_ninety_nine(self):
        self.assertEqual(put_in(V0, var(99), 0), var(99))
        self.assertEqual(put_in(var(99), ZERO, 0), var(98))
        self.assertEqual(put_in(var(99), ZERO, 99), ZERO)
        self.assertEqual(put_in(var(99), ZERO, 100), var(99))
        self.assertEqual(put_in(under(3, V3), var(96), 0), under(3, var(99)))
        assert_refused(self, Great, put_in, under(3, V3), var(97), 0)
        assert_refused(self, Great, put_in, under(1, V1), var(99), 0)
        assert_refused(self, Great, put_in, under(3, V3), under(1, var(97)), 0)
        self.assertEqual(put_in(under(3, V3), under(1, var(96)), 0), under(4, var(99)))

    def test_knots(self):
        two = pair_of(V0, V0)
        self.assertEqual(size_of(put_in(("next", two), wide(299), 0)), 600)
        assert_refused(self, Great, put_in, two, wide(300), 0)
        self.assertEqual(put_in(V0, wide(600), 0), wide(600))
        assert_refused(self, Great, put_in, ("next", V0), wide(600), 0)
        assert_refused(self, Great, put_in, wide(599, V0), wide(599, V0), 0)
        self.assertEqual(put_in(wide(600, V1), ZERO, 0), wide(600, V0))

    def test_depth(self):
        self.assertEqual(put_in(deep(20, V0), deep(21), 0), deep(40))
        assert_refused(self, Great, put_in, deep(20, V0), deep(22), 0)
        self.assertEqual(put_in(V0, deep(40), 0), deep(40))
        assert_refused(self, Great, put_in, ("next", V0), deep(40), 0)
        self.assertEqual(put_in(under(39, var(39)), ZERO, 0), under(39, ZERO))
        assert_refused(self, Great, put_in, under(39, var(39)), ("next", ZERO), 0)

    def test_what_is_gone_through_on_the_way_does_not_count(self):
        self.assertEqual(put_in(V0, var(99), 0), var(99))
        self.assertEqual(put_in(pair_of(V0, var(99)), var(99), 0), pair_of(var(99), var(98)))
        self.assertEqual(put_in(under(39, V0), var(99), 0), under(39, V0))
        self.assertEqual(put_in(V1, wide(601), 0), V0)
        self.assertEqual(put_in(V1, deep(41), 0), V0)
        self.assertEqual(put_in(V1, var(100), 0), V0)
        self.assertEqual(put_in(var(100), ZERO, 0), var(99))
        self.assertEqual(put_in(under(3, var(100)), ZERO, 0), under(3, var(99)))

    def test_as_by_names(self):
        others = many_terms(60, 8, depth=3)
        for number, thing in enumerate(many_terms(300, 9, depth=4) + many_kinds(200, 10, depth=4)):
            other, at = others[number % 60], number % 5
            self.assertEqual(put_in(thing, other, at), put_in_by_names(thing, other, at))

    def test_lifted_and_put_in_again(self):
        for number, thing in enumerate(many_terms(100, 11) + many_kinds(100, 12)):
            at = number % 5
            self.assertEqual(put_in(lifted(thing, 1, at), ("name", "x"), at), thing)


if __name__ == "__main__":
    unittest.main()
