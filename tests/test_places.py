import unittest

from keeper.errors import Great, NoPlace
from keeper.places import at_place, binders_at, places_of, with_at
from keeper.things import depth_of, size_of
from tests.refusals import assert_refused
from tests.samples import (
    KINDS, NAT, NONE, TERMS, V0, V1, V2, ZERO, deep, many_kinds, many_terms, under, var, wide,
)

REC = ("rec", ("same", NAT, V0, V1), ZERO, ("fun", NAT, ("fun", NAT, V0)), ("next", V2))
REC_PLACES = [
    (), (0,), (0, 0), (0, 1), (0, 2), (1,), (2,), (2, 0), (2, 1), (2, 1, 0), (2, 1, 1), (3,), (3, 0),
]
KIND_WORDS = [kind[0] for kind in KINDS]
NOT_THERE = (
    (-1,), (4,), (5,), (10 ** 30,), (-10 ** 30,), (0, 3), (0, -1), (0, 0, 0), (1, 0), (1, -1), (2, 1, 1, 0), (2, 2),
    (3, 1), (3, 0, 0), (-1, 0), (4, 0), (-4,), (3, -1), (2, -1, -1), (0,) * 100,
)


class PlacesTest(unittest.TestCase):
    """Point 11."""

    def test_places_in_order(self):
        for thing in (NAT, NONE, ZERO, V0, ("name", "plus")):
            self.assertEqual(places_of(thing), [()])
        self.assertEqual(places_of(("app", V0, V1)), [(), (0,), (1,)])
        self.assertEqual(places_of(REC), REC_PLACES)

    def test_as_many_as_knots_and_as_long_as_deep(self):
        for thing in many_terms(100, 13) + many_kinds(100, 14):
            places = places_of(thing)
            self.assertEqual(len(places), size_of(thing))
            self.assertEqual(1 + max(len(place) for place in places), depth_of(thing))
            self.assertEqual(places, sorted(set(places)))
        self.assertEqual(len(places_of(wide(600))), 600)
        self.assertEqual(places_of(deep(40))[-1], (0,) * 39)

    def test_the_list_is_the_askers_own(self):
        told = places_of(V0)
        told.append((7,))
        self.assertEqual(places_of(V0), [()])

    def test_at_place(self):
        self.assertEqual(at_place(REC, ()), REC)
        self.assertEqual(at_place(REC, (0,)), ("same", NAT, V0, V1))
        self.assertEqual(at_place(REC, (0, 2)), V1)
        self.assertEqual(at_place(REC, (2, 1)), ("fun", NAT, V0))
        self.assertEqual(at_place(REC, (3, 0)), V2)
        self.assertEqual(at_place(deep(40), (0,) * 39), ZERO)

    def test_places_of_leads_to_all_things_within(self):
        for thing in many_terms(50, 15) + many_kinds(50, 16):
            for place in places_of(thing):
                there = thing
                for number in place:
                    there = there[number + 1]
                self.assertEqual(at_place(thing, place), there)

    def test_with_at(self):
        self.assertEqual(with_at(REC, (), ZERO), ZERO)
        self.assertEqual(with_at(NAT, (), NONE), NONE)
        self.assertEqual(with_at(REC, (0, 2), ZERO), ("rec", ("same", NAT, V0, ZERO)) + REC[2:])
        self.assertEqual(with_at(REC, (3,), V0), REC[:4] + (V0,))
        self.assertEqual(with_at(REC, (2, 1, 0), NONE), REC[:3] + (("fun", NAT, ("fun", NONE, V0)), REC[4]))
        for thing in many_terms(50, 17) + many_kinds(50, 18):
            for place in places_of(thing):
                there = at_place(thing, place)
                self.assertEqual(with_at(thing, place, there), thing)
                new = ("all", NAT, NAT) if there[0] in KIND_WORDS else ("next", V0)
                changed = with_at(thing, place, new)
                self.assertEqual(at_place(changed, place), new)
                self.assertEqual(with_at(changed, place, there), thing)

    def test_nothing_is_lifted(self):
        self.assertEqual(with_at(under(2, ZERO), (1, 1), V0), under(2, V0))

    def test_with_at_at_the_bounds(self):
        self.assertEqual(with_at(("next", ZERO), (0,), deep(39)), deep(40))
        assert_refused(self, Great, with_at, ("next", ZERO), (0,), deep(40))
        self.assertEqual(with_at(deep(40), (0,) * 39, V0), deep(40, V0))
        assert_refused(self, Great, with_at, deep(40), (0,) * 39, ("next", ZERO))
        self.assertEqual(size_of(with_at(("app", ZERO, ZERO), (1,), wide(598))), 600)
        assert_refused(self, Great, with_at, ("app", ZERO, ZERO), (1,), wide(599))
        assert_refused(self, Great, with_at, ZERO, (), wide(601))
        assert_refused(self, Great, with_at, ZERO, (), deep(41))
        self.assertEqual(with_at(("next", ZERO), (0,), var(99)), ("next", var(99)))
        assert_refused(self, Great, with_at, ("next", ZERO), (0,), var(100))
        self.assertEqual(with_at(wide(600), (), ZERO), ZERO)

    def test_what_goes_does_not_count(self):
        self.assertEqual(with_at(deep(41), (0,), ZERO), ("next", ZERO))
        self.assertEqual(with_at(("app", wide(600), ZERO), (0,), V0), ("app", V0, ZERO))
        self.assertEqual(with_at(("next", var(100)), (0,), V0), ("next", V0))

    def test_binders_at(self):
        wanted = [0, 1, 1, 1, 1, 0, 0, 0, 1, 1, 2, 0, 0]
        self.assertEqual([binders_at(REC, place) for place in REC_PLACES], wanted)
        self.assertEqual(binders_at(under(39, ZERO), (1,) * 39), 39)
        self.assertEqual(binders_at(under(39, ZERO), (1,) * 38 + (0,)), 38)
        for word, places in (("all", [0, 1]), ("some", [0, 1]), ("fun", [0, 1]), ("carry", [1, 0, 0])):
            thing = [found for found in KINDS + TERMS if found[0] == word][0]
            self.assertEqual([binders_at(thing, (number,)) for number in range(len(places))], places)

    def test_places_that_are_not_there(self):
        for place in NOT_THERE:
            assert_refused(self, NoPlace, at_place, REC, place)
            assert_refused(self, NoPlace, with_at, REC, place, ZERO)
            assert_refused(self, NoPlace, binders_at, REC, place)
        for thing in (NAT, NONE, ZERO, V0, V1, ("name", "plus")):
            for place in ((0,), (-1,), (1,), (0, 0)):
                assert_refused(self, NoPlace, at_place, thing, place)
                assert_refused(self, NoPlace, with_at, thing, place, thing)
                assert_refused(self, NoPlace, binders_at, thing, place)

    def test_a_truth_is_no_number_of_a_child(self):
        for place in ((True,), (False,), (2, True)):
            assert_refused(self, NoPlace, at_place, REC, place)
            assert_refused(self, NoPlace, with_at, REC, place, ZERO)
            assert_refused(self, NoPlace, binders_at, REC, place)

    def test_no_place_comes_ahead_of_great(self):
        for great in (wide(601), deep(41), var(100)):
            for place in NOT_THERE:
                assert_refused(self, NoPlace, with_at, REC, place, great)
            assert_refused(self, Great, with_at, REC, (1,), great)
        for great in (wide(601), deep(41), ("next", var(100))):
            for place in ((-1,), (7,), (0,) * 60):
                assert_refused(self, NoPlace, at_place, great, place)
                assert_refused(self, NoPlace, with_at, great, place, ZERO)
                assert_refused(self, NoPlace, binders_at, great, place)


if __name__ == "__main__":
    unittest.main()
