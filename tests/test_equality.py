import unittest

from keeper.equality import alike, compared, parting, shows
from keeper.errors import Dry, Great
from keeper.normal import normal
from keeper.places import at_place, places_of, with_at
from tests.books import SOUND, WILD, at, number, plus
from tests.refusals import assert_refused
from tests.samples import (
    KINDS, NAT, NONE, TERMS, V0, V1, V2, ZERO, deep, deep_kind, many_kinds, many_terms, under, var, wide, wide_kind,
)

X, Y = ("name", "x"), ("name", "y")
TWO = ("name", "two")
SELF = ("fun", NAT, ("app", V0, V0))
ENDLESS = ("app", SELF, SELF)
GROWING = at(("fun", NAT, ("app", V0, V0)), wide(400))


def doubled(depth, bottom):
    thing = bottom
    for count in range(depth - 1):
        thing = ("app", thing, thing)
    return thing


def by_places(one, other):
    """What point 16 says, place by place."""
    theirs = places_of(other)
    for place in places_of(one):
        if place in theirs:
            here, there = at_place(one, place), at_place(other, place)
            if here[0] != there[0] or (here[0] in ("var", "name") and here != there):
                return place
    return None


class PartingTest(unittest.TestCase):
    """Point 16."""

    def test_one_thing(self):
        for thing in KINDS + TERMS + tuple(many_terms(100, 41) + many_kinds(100, 42)):
            self.assertIsNone(parting(thing, thing))

    def test_at_the_root(self):
        for one in KINDS:
            for other in KINDS:
                if one != other:
                    self.assertEqual(parting(one, other), ())
        for one in TERMS:
            for other in TERMS:
                if one != other:
                    self.assertEqual(parting(one, other), ())
        self.assertEqual(parting(V0, V1), ())
        self.assertEqual(parting(X, Y), ())
        self.assertIsNone(parting(var(7), var(7)))
        self.assertIsNone(parting(("name", "abc"), ("name", "abc")))

    def test_the_first_of_several_places(self):
        one = ("rec", ("same", NAT, V0, V1), ZERO, ("app", X, Y), ("next", V2))
        for other, wanted in (
            (("rec", ("same", NAT, V0, V1), ZERO, ("app", X, Y), ("next", V0)), (3, 0)),
            (("rec", ("same", NAT, V0, V1), ZERO, ("app", X, X), ("next", V0)), (2, 1)),
            (("rec", ("same", NAT, V0, V1), ZERO, ("app", Y, Y), ("next", V0)), (2, 0)),
            (("rec", ("same", NAT, V0, V1), V0, ("app", Y, Y), ("next", V0)), (1,)),
            (("rec", ("same", NAT, V0, V0), V0, ("app", Y, Y), ("next", V0)), (0, 2)),
            (("rec", ("same", NAT, V1, V0), V0, ("app", Y, Y), ("next", V0)), (0, 1)),
            (("rec", ("same", NONE, V1, V0), V0, ("app", Y, Y), ("next", V0)), (0, 0)),
            (("rec", NAT, V0, ("app", Y, Y), ("next", V0)), (0,)),
            (("carry", NAT, V0, ("app", Y, Y)), ()),
        ):
            self.assertEqual(parting(one, other), wanted)
            self.assertEqual(parting(other, one), wanted)

    def test_a_word_unlike_above_a_place_unlike(self):
        self.assertEqual(parting(("next", ("first", V0)), ("next", ("second", V1))), (0,))
        self.assertEqual(parting(("all", NAT, ("all", NAT, NAT)), ("all", NAT, ("some", NONE, NONE))), (1,))
        self.assertEqual(parting(("app", X, ("fun", NAT, V0)), ("app", X, ("like", NONE, V1))), (1,))

    def test_which_names_binders_have_is_not_asked(self):
        self.assertEqual(parting(under(3, V0), under(3, V2)), (1, 1, 1))
        self.assertIsNone(parting(under(3, V2), under(3, V2)))

    def test_nothing_is_reduced(self):
        self.assertEqual(parting(TWO, number(2)), ())
        self.assertEqual(parting(at(("fun", NAT, V0), ZERO), ZERO), ())

    def test_place_by_place(self):
        for things in (many_terms(150, 43), many_kinds(150, 44)):
            for count, one in enumerate(things):
                other = things[count - 1]
                self.assertEqual(parting(one, other), by_places(one, other))
                for place in places_of(one)[::7]:
                    if at_place(one, place)[0] in ("nat", "none", "all", "some", "same"):
                        changed = with_at(one, place, ("some", NONE, NAT))
                    else:
                        changed = with_at(one, place, ("next", var(9)))
                    self.assertEqual(parting(one, changed), by_places(one, changed))
                    self.assertEqual(parting(changed, one), by_places(one, changed))

    def test_things_that_are_too_great(self):
        self.assertIsNone(parting(deep(60), deep(60)))
        self.assertEqual(parting(deep(60), deep(60, V0)), (0,) * 59)
        self.assertEqual(parting(deep(60), deep(59)), (0,) * 58)
        self.assertEqual(parting(deep_kind(60), deep_kind(58)), (1,) * 57)
        self.assertIsNone(parting(wide(2000), wide(2000)))
        self.assertEqual(parting(wide(2000), wide(2000, V0))[0], 0)
        self.assertIsNone(parting(wide_kind(3000), wide_kind(3000)))
        self.assertIsNone(parting(var(100), var(100)))
        self.assertEqual(parting(var(100), var(1000)), ())
        self.assertEqual(parting(("app", wide(700), V0), ("app", wide(700), V1)), (1,))

    def test_one_tuple_within_another_again_and_again(self):
        self.assertIsNone(parting(doubled(60, ZERO), doubled(60, ZERO)))
        self.assertEqual(parting(doubled(60, ZERO), doubled(60, V0)), (0,) * 59)
        last = ("app", doubled(59, ZERO), ("next", ZERO))
        self.assertEqual(parting(doubled(60, ZERO), last), (1,))

    def test_no_place_is_passed_over(self):
        # The same on the one side twice, but not on the other one, and the other way round.
        self.assertEqual(parting(("app", X, X), ("app", X, Y)), (1,))
        self.assertEqual(parting(("app", X, Y), ("app", X, X)), (1,))
        self.assertEqual(parting(("rec", NAT, X, Y, X), ("rec", NAT, X, Y, Y)), (3,))
        self.assertEqual(parting(("rec", NAT, X, Y, Y), ("rec", NAT, X, Y, X)), (3,))


class ComparedTest(unittest.TestCase):
    """Point 17."""

    def test_a_tuple_of_five(self):
        self.assertEqual(compared(ZERO, ZERO, 0, {}), (ZERO, ZERO, [], [], None))
        self.assertEqual(compared(ZERO, V0, 0, {}), (ZERO, V0, [], [], ()))
        two = number(2)
        self.assertEqual(compared(TWO, two, 1, SOUND), (two, two, [((), "name")], [], None))
        self.assertEqual(compared(two, TWO, 1, SOUND), (two, two, [], [((), "name")], None))
        self.assertEqual(compared(("next", TWO), TWO, 1, SOUND),
                         (number(3), two, [((0,), "name")], [((), "name")], (0, 0)))
        told = compared(TWO, TWO, 1, SOUND)
        self.assertEqual([type(part) for part in told], [tuple, tuple, list, list, type(None)])

    def test_kinds(self):
        one = ("same", NAT, plus(TWO, ZERO), V0)
        other = ("same", NAT, number(2), at(("fun", NAT, V0), V0))
        told = compared(one, other, 100, SOUND)
        self.assertEqual(told[:2], (("same", NAT, number(2), V0),) * 2)
        self.assertIsNone(told[4])
        self.assertIs(alike(one, other, 100, SOUND), True)
        self.assertIs(alike(one, ("same", NAT, number(2), V1), 100, SOUND), False)
        self.assertEqual(compared(one, ("same", NAT, number(2), V1), 100, SOUND)[4], (2,))

    def test_as_normal_and_parting(self):
        terms = many_terms(80, 45)
        for one, other in zip(terms, terms[1:]):
            try:
                from_one, from_other = normal(one, 50, SOUND), normal(other, 50, SOUND)
            except (Dry, Great):
                continue
            place = parting(from_one[0], from_other[0])
            wanted = (from_one[0], from_other[0], from_one[1], from_other[1], place)
            self.assertEqual(compared(one, other, 50, SOUND), wanted)
            self.assertIs(alike(one, other, 50, SOUND), place is None)
            self.assertIs(shows(one, other, wanted, SOUND), True)

    def test_the_whole_fuel_for_each(self):
        thing = plus(number(1), number(2))
        count = len(normal(thing, 1000, SOUND)[1])
        self.assertIs(alike(thing, thing, count, SOUND), True)
        for function in (alike, compared):
            assert_refused(self, Dry, function, thing, thing, count - 1, SOUND)
            assert_refused(self, Dry, function, thing, ZERO, count - 1, SOUND)
            assert_refused(self, Dry, function, ZERO, thing, count - 1, SOUND)
            assert_refused(self, Dry, function, ZERO, TWO, 0, SOUND)

    def test_what_is_one_thing_already_is_reduced_all_the_same(self):
        for function in (alike, compared):
            assert_refused(self, Dry, function, TWO, TWO, 0, SOUND)
            assert_refused(self, Dry, function, ENDLESS, ENDLESS, 100, {})
            assert_refused(self, Great, function, GROWING, GROWING, 100, {})

    def test_what_parts_at_once_is_reduced_all_the_same(self):
        for function in (alike, compared):
            assert_refused(self, Dry, function, ("next", ENDLESS), ZERO, 100, {})
            assert_refused(self, Great, function, ZERO, ("next", GROWING), 100, {})

    def test_the_one_refuses_first(self):
        for function in (alike, compared):
            assert_refused(self, Dry, function, ENDLESS, GROWING, 100, {})
            assert_refused(self, Great, function, GROWING, ENDLESS, 100, {})
            assert_refused(self, Dry, function, ("same", NAT, ENDLESS, X), ("same", NAT, GROWING, X), 9, {})
            assert_refused(self, Great, function, ("same", NAT, GROWING, X), ("same", NAT, ENDLESS, X), 9, {})
            assert_refused(self, Great, function, ("name", "grow"), ("name", "loop"), 99, WILD)
            assert_refused(self, Dry, function, ("name", "loop"), ("name", "grow"), 99, WILD)


class ShowsTest(unittest.TestCase):
    """Point 17a."""

    ONE, OTHER = plus(TWO, number(1)), ("next", plus(TWO, ZERO))

    def told(self):
        return compared(self.ONE, self.OTHER, 100, SOUND)

    def is_shown(self, *parts):
        answer = shows(self.ONE, self.OTHER, parts, SOUND)
        self.assertIs(type(answer), bool)
        return answer

    def test_what_compared_tells_is_right(self):
        self.assertTrue(self.is_shown(*self.told()))
        self.assertTrue(shows(V0, V1, (V0, V1, [], [], ()), {}))
        self.assertTrue(shows(NAT, NAT, (NAT, NAT, [], [], None), {}))
        for other in (ZERO, V0, plus(TWO, TWO), ("next", ("next", V0)), X):
            told = compared(self.ONE, other, 100, SOUND)
            self.assertIsNotNone(told[4])
            self.assertIs(shows(self.ONE, other, told, SOUND), True)

    def test_another_end(self):
        one, other, one_log, other_log, place = self.told()
        for wrong in (ZERO, number(2), number(4), X, self.ONE, wide(601), deep(50)):
            self.assertFalse(self.is_shown(wrong, other, one_log, other_log, place))
            self.assertFalse(self.is_shown(one, wrong, one_log, other_log, place))
            self.assertFalse(self.is_shown(wrong, wrong, one_log, other_log, place))
        self.assertFalse(shows(ZERO, ZERO, (V0, V0, [], [], None), {}))

    def test_another_log(self):
        one, other, one_log, other_log, place = self.told()
        for log in (one_log[:-1], one_log[1:], [], one_log + [((), "fun")], one_log + [((9,), "fun")],
                    [((-1,), "fun")], [((0,), "fun")], [(row[0], "name") for row in one_log], one_log * 2):
            self.assertFalse(self.is_shown(one, other, log, other_log, place))
        for log in (other_log[:-1], [], one_log, [((3,), "name")] + other_log, [((), "fun")] + other_log):
            self.assertFalse(self.is_shown(one, other, one_log, log, place))
        self.assertFalse(self.is_shown(one, other, other_log, one_log, place))

    def test_another_place(self):
        one, other, one_log, other_log, place = self.told()
        for wrong in ((), (0,), (0, 0), (1,), (-1,)):
            self.assertFalse(self.is_shown(one, other, one_log, other_log, wrong))
        parted = (("app", V0, X), ("app", V1, Y), [], [])
        for wrong in (None, (), (1,), (0, 0), (-1,), (-2,), (False,)):
            self.assertIs(shows(parted[0], parted[1], parted + (wrong,), {}), False)
        self.assertIs(shows(parted[0], parted[1], parted + ((0,),), {}), True)
        one, other = ("app", X, V0), ("app", X, V1)
        self.assertIs(shows(one, other, (one, other, [], [], (1,)), {}), True)
        self.assertIs(shows(one, other, (one, other, [], [], (True,)), {}), False)
        self.assertIs(shows(V0, V1, (V0, V1, [], [], None), {}), False)

    def test_something_still_steps(self):
        self.assertIs(shows(TWO, TWO, (TWO, TWO, [], [], None), SOUND), False)
        self.assertIs(shows(TWO, TWO, (TWO, TWO, [], [], None), {}), True)
        two = number(2)
        self.assertIs(shows(TWO, two, (TWO, two, [], [], ()), SOUND), False)
        self.assertIs(shows(two, TWO, (two, TWO, [], [], ()), SOUND), False)
        deep_within = under(5, ("next", TWO))
        self.assertIs(shows(deep_within, ZERO, (deep_within, ZERO, [], [], ()), SOUND), False)

    def test_logs_by_other_places(self):
        one = at(("fun", NAT, ("app", V0, V0)), TWO)
        end = ("app", number(2), number(2))
        self.assertEqual(normal(one, 9, SOUND)[1], [((), "fun"), ((0,), "name"), ((1,), "name")])
        for log in ([((1,), "name"), ((), "fun")], [((), "fun"), ((1,), "name"), ((0,), "name")]):
            self.assertIs(shows(one, end, (end, end, log, [], None), SOUND), True)
            self.assertIs(shows(end, one, (end, end, [], log, None), SOUND), True)

    def test_a_log_through_something_too_great(self):
        log = [((), "fun")]
        end = ("app", wide(400), wide(400))
        self.assertIs(shows(GROWING, ZERO, (end, ZERO, log, [], ()), {}), False)
        self.assertIs(shows(ZERO, GROWING, (ZERO, end, [], log, ()), {}), False)

    def test_another_book(self):
        told = self.told()
        self.assertIs(shows(self.ONE, self.OTHER, told, {}), False)
        self.assertIs(shows(self.ONE, self.OTHER, told, {"plus": SOUND["plus"]}), False)
        self.assertIs(shows(self.OTHER, self.ONE, told, SOUND), False)


class EqualityKeepsNothingTest(unittest.TestCase):
    """Point 1."""

    def test_logs_are_the_askers_own(self):
        thing = plus(number(1), number(1))
        told = compared(thing, thing, 100, SOUND)
        kept = (told[0], told[1], list(told[2]), list(told[3]), told[4])
        told[2].append(1)
        self.assertEqual(told[3], kept[3])
        told[3].clear()
        self.assertEqual(compared(thing, thing, 100, SOUND), kept)
        empty = compared(ZERO, ZERO, 5, {})
        empty[2].append(1)
        self.assertEqual(empty[3], [])
        self.assertEqual(compared(ZERO, ZERO, 5, {}), (ZERO, ZERO, [], [], None))

    def test_what_is_handed_in_stays(self):
        book = dict(SOUND)
        one, other = plus(number(1), number(1)), TWO
        told = compared(one, other, 100, book)
        logs = (list(told[2]), list(told[3]))
        self.assertIs(shows(one, other, told, book), True)
        self.assertIs(shows(one, other, told, book), True)
        self.assertIs(alike(one, other, 100, book), True)
        self.assertEqual((told[2], told[3]), logs)
        self.assertEqual(list(book.items()), list(SOUND.items()))

    def test_a_book_changed_behind_the_call(self):
        book = {"told": (NAT, ZERO)}
        told = compared(("name", "told"), ZERO, 5, book)
        book["told"] = (NAT, V0)
        self.assertEqual(told, (ZERO, ZERO, [((), "name")], [], None))
        self.assertIs(alike(("name", "told"), ZERO, 5, book), False)
        self.assertIs(shows(("name", "told"), ZERO, told, book), False)


if __name__ == "__main__":
    unittest.main()
