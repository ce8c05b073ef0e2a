import unittest

from keeper.errors import Great
from keeper.things import binds_of, depth_of, is_kind, is_term, kids_of, size_of, with_kids
from tests.refusals import assert_refused
from tests.samples import (
    KINDS, NAT, NONE, TERMS, V0, V1, V2, WORDS, ZERO, deep, deep_kind, many_kinds, many_terms, under, var, wide,
    wide_kind,
)

# What is due at the children of each word, as points 2 and 3 tell it.
DUE = {
    "nat": "", "none": "", "all": "kk", "some": "kk", "same": "ktt", "fun": "kt", "app": "tt", "zero": "",
    "next": "t", "rec": "kttt", "like": "kt", "carry": "ktt", "never": "kt", "pair": "ktt", "first": "t",
    "second": "t",
}

# What is no thing, wherever it stands.
JUNK = (None, True, False, 0, 1, -1, "", "nat", "zero", "plus", (), ((),), ("nat", "nat"), ("other",), (NAT,))


def doubled(depth, make, bottom):
    value = bottom
    for count in range(depth - 1):
        value = make(value)
    return value


class ShapeTest(unittest.TestCase):
    """Points 2, 3 and 6."""

    def assert_kind(self, value):
        self.assertIs(is_kind(value), True, value)
        self.assertIs(is_term(value), False, value)

    def assert_term(self, value):
        self.assertIs(is_term(value), True, value)
        self.assertIs(is_kind(value), False, value)

    def assert_neither(self, value):
        self.assertIs(is_term(value), False)
        self.assertIs(is_kind(value), False)

    def test_the_samples_have_all_words(self):
        self.assertEqual([thing[0] for thing in KINDS + TERMS], list(WORDS))
        self.assertEqual(len(WORDS), 18)

    def test_every_word_begins_a_kind_or_a_term(self):
        for kind in KINDS:
            self.assert_kind(kind)
        for term in TERMS:
            self.assert_term(term)

    def test_many_things(self):
        for kind in many_kinds(300, 1):
            self.assert_kind(kind)
        for term in many_terms(300, 2):
            self.assert_term(term)

    def test_a_part_more_or_less(self):
        for thing in KINDS + TERMS:
            for more in (NAT, ZERO, None, 0, "plus"):
                self.assert_neither(thing + (more,))
            if len(thing) > 1:
                self.assert_neither(thing[:-1])
                self.assert_neither(thing[:1])
                self.assert_neither(thing[1:])

    def test_a_kind_where_a_term_is_due_and_the_other_way_round(self):
        for thing in KINDS + TERMS:
            for number, due in enumerate(DUE.get(thing[0], "")):
                wrong = [ZERO, V0] if due == "k" else [NAT, ("same", NAT, ZERO, ZERO)]
                for part in wrong + list(JUNK):
                    parts = list(thing)
                    parts[number + 1] = part
                    self.assert_neither(tuple(parts))

    def test_a_wrong_part_far_within(self):
        self.assert_term(under(10, ("like", NAT, ZERO)))
        self.assert_neither(under(10, ("like", ZERO, ZERO)))
        self.assert_neither(under(10, ("like", NAT, NAT)))
        self.assert_neither(("all", NAT, ("all", NAT, ("same", NAT, ZERO, ("var", True)))))

    def test_what_is_no_tuple_or_begins_with_no_word(self):
        for value in JUNK + ("var", "name", (NAT, ZERO), ("Nat",), ("nat ",), (None,), (0,), (True,), ("kind",)):
            self.assert_neither(value)
        for word in WORDS:
            self.assert_neither(word)
            self.assert_neither(((word,),))
            self.assert_neither((word.upper(),) + (KINDS + TERMS)[WORDS.index(word)][1:])

    def test_variables(self):
        for number in (0, 1, 50, 98, 99):
            self.assert_term(("var", number))
        for number in (100, 101, 10 ** 30, -1, -100, True, False, None, "0", "", (), (0,), V0):
            self.assert_neither(("var", number))
            self.assert_neither(("next", ("var", number)))
        self.assert_neither(("var",))
        self.assert_neither(("var", 0, 0))

    def test_bound_variables_are_bounded_too(self):
        self.assert_term(under(3, var(99)))
        self.assert_neither(under(3, var(100)))

    def test_names(self):
        for name in ("a", "z", "plus", "abcdefghijkl", "mnopqrstuvwx", "yz", "nats", "va", "alll"):
            self.assert_term(("name", name))
        wrong = ("", "abcdefghijklm", "a" * 1000, "Plus", "plUs", "pluS", "a1", "1", "a b", " a", "a ", "a_b", "a-b",
                 "a\n", "\u00e9", "stra\u00dfe", "\uff41", "\u0430", "`", "{", "%")
        for name in wrong + WORDS:
            self.assert_neither(("name", name))
        for name in (0, True, None, (), ("a",), ("name", "a")):
            self.assert_neither(("name", name))
        self.assert_neither(("name",))
        self.assert_neither(("name", "a", "b"))

    def test_knots(self):
        self.assert_term(wide(599))
        self.assert_term(wide(600))
        self.assert_neither(wide(601))
        self.assert_neither(wide(602))
        self.assert_kind(wide_kind(600))
        self.assert_neither(wide_kind(601))

    def test_depth(self):
        self.assert_term(deep(39))
        self.assert_term(deep(40))
        self.assert_neither(deep(41))
        self.assert_kind(deep_kind(40))
        self.assert_neither(deep_kind(41))
        self.assert_neither(("app", deep(40), ZERO))
        self.assert_neither(("app", ZERO, deep(40)))

    def test_ninety_deep(self):
        self.assert_neither(deep(90))
        self.assert_neither(deep_kind(90))
        self.assert_neither(doubled(90, lambda value: (value,), ()))
        self.assert_neither((doubled(89, lambda value: (value,), "nat"),))
        self.assert_neither(("var", doubled(89, lambda value: (value,), 0)))
        self.assert_neither(("name", doubled(89, lambda value: (value,), "plus")))

    def test_one_tuple_within_another_again_and_again(self):
        self.assert_neither(doubled(90, lambda value: ("app", value, value), ZERO))
        self.assert_neither(doubled(90, lambda value: ("all", value, value), NAT))
        self.assert_neither(doubled(90, lambda value: (value, value), ()))
        self.assert_neither(doubled(40, lambda value: (value, value, value, value), "nat"))
        self.assert_neither((doubled(39, lambda value: (value, value), "nat"), NAT, NAT))
        self.assert_neither(("var", doubled(39, lambda value: (value, value), 0)))


class KidsTest(unittest.TestCase):
    """Points 4, 5 and 7."""

    def test_kids(self):
        self.assertEqual(kids_of(NAT), [])
        self.assertEqual(kids_of(NONE), [])
        self.assertEqual(kids_of(ZERO), [])
        self.assertEqual(kids_of(V2), [])
        self.assertEqual(kids_of(("name", "plus")), [])
        self.assertEqual(kids_of(("rec", NAT, ZERO, V1, V2)), [NAT, ZERO, V1, V2])
        self.assertEqual(kids_of(("all", NAT, NONE)), [NAT, NONE])
        for thing in KINDS + TERMS:
            wanted = [] if thing[0] in ("var", "name") else list(thing[1:])
            self.assertEqual(kids_of(thing), wanted)

    def test_binds(self):
        wanted = {
            "all": [0, 1], "some": [0, 1], "fun": [0, 1], "rec": [1, 0, 0, 0], "carry": [1, 0, 0],
            "same": [0, 0, 0], "app": [0, 0], "next": [0], "like": [0, 0], "never": [0, 0], "pair": [0, 0, 0],
            "first": [0], "second": [0], "nat": [], "none": [], "zero": [], "var": [], "name": [],
        }
        for thing in KINDS + TERMS:
            self.assertEqual(binds_of(thing), wanted[thing[0]], thing)
            self.assertEqual([isinstance(number, bool) for number in binds_of(thing)], [False] * len(kids_of(thing)))

    def test_size_and_depth(self):
        for thing in (NAT, NONE, ZERO, V0, var(99), ("name", "plus")):
            self.assertEqual(size_of(thing), 1)
            self.assertEqual(depth_of(thing), 1)
        self.assertEqual(size_of(("rec", NAT, ZERO, V1, V2)), 5)
        self.assertEqual(depth_of(("rec", NAT, ZERO, V1, V2)), 2)
        lopsided = ("pair", ("some", NAT, ("same", NAT, V0, ("next", ZERO))), ZERO, V0)
        self.assertEqual(size_of(lopsided), 10)
        self.assertEqual(depth_of(lopsided), 5)
        self.assertEqual(depth_of(("app", deep(7), deep(3))), 8)
        self.assertEqual(depth_of(("app", deep(3), deep(7))), 8)
        for count in (1, 2, 3, 4, 10, 599, 600):
            self.assertEqual(size_of(wide(count)), count)
        for count in (1, 2, 39, 40):
            self.assertEqual(depth_of(deep(count)), count)
            self.assertEqual(size_of(deep(count)), count)
        self.assertEqual(size_of(wide_kind(600)), 600)
        self.assertEqual(size_of(deep_kind(40)), 79)

    def test_nothing_is_refused_that_gives_no_thing(self):
        self.assertEqual(size_of(wide(601)), 601)
        self.assertEqual(depth_of(deep(41)), 41)

    def test_with_kids(self):
        self.assertEqual(with_kids(("app", V0, V1), [V2, ZERO]), ("app", V2, ZERO))
        self.assertEqual(with_kids(("all", NAT, NONE), [NONE, NAT]), ("all", NONE, NAT))
        self.assertEqual(with_kids(NAT, []), NAT)
        self.assertEqual(with_kids(var(99), []), var(99))
        self.assertEqual(with_kids(("name", "plus"), []), ("name", "plus"))
        for thing in KINDS + TERMS:
            self.assertEqual(with_kids(thing, kids_of(thing)), thing)
        for thing in many_terms(100, 3):
            self.assertEqual(with_kids(thing, kids_of(thing)), thing)

    def test_with_kids_at_the_bounds(self):
        self.assertEqual(with_kids(("next", ZERO), [deep(39)]), deep(40))
        for child in (deep(40), deep(41), deep(40, V0)):
            assert_refused(self, Great, with_kids, ("next", ZERO), [child])
        for children in ([deep(41), ZERO], [ZERO, deep(41)], [deep(40), deep(40)]):
            assert_refused(self, Great, with_kids, ("app", ZERO, ZERO), children)
        assert_refused(self, Great, with_kids, ("all", NAT, NAT), [deep_kind(41), NAT])
        self.assertEqual(size_of(with_kids(("app", V0, V1), [wide(300), wide(299)])), 600)
        assert_refused(self, Great, with_kids, ("app", V0, V1), [wide(300), wide(300)])
        self.assertEqual(with_kids(("next", ZERO), [var(99)]), ("next", var(99)))
        assert_refused(self, Great, with_kids, ("next", ZERO), [var(100)])
        assert_refused(self, Great, with_kids, ("next", ZERO), [under(20, var(100))])

    def test_the_children_that_go_do_not_count(self):
        self.assertEqual(with_kids(("next", deep(41)), [ZERO]), ("next", ZERO))
        self.assertEqual(with_kids(("next", wide(601)), [ZERO]), ("next", ZERO))
        self.assertEqual(with_kids(("next", var(100)), [ZERO]), ("next", ZERO))

    def test_nothing_is_kept_and_lists_stay(self):
        thing = ("app", V0, V1)
        kids = kids_of(thing)
        kids.append(ZERO)
        kids[0] = NAT
        self.assertEqual(kids_of(thing), [V0, V1])
        binds = binds_of(("fun", NAT, V0))
        binds[0] = 7
        binds.append(7)
        self.assertEqual(binds_of(("fun", NAT, V0)), [0, 1])
        handed = [V2, ZERO]
        given = with_kids(thing, handed)
        self.assertEqual(handed, [V2, ZERO])
        handed[0] = V1
        handed.append(V1)
        self.assertEqual(given, ("app", V2, ZERO))
        self.assertIsInstance(given, tuple)


if __name__ == "__main__":
    unittest.main()
