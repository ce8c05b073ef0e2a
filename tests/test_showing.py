import itertools
import random
import unittest

from keeper.errors import NoVariable
from keeper.putting import free_in
from keeper.reading import read_kind, read_term
from keeper.showing import shown
from tests.books import PLUS, SOUND, TIMES, TURN_KIND, at, number
from tests.refusals import assert_refused
from tests.samples import (
    KINDS, NAT, NONE, TERMS, V0, V1, V2, WORDS, ZERO, deep, deep_kind, many_kinds, many_terms, under, var, wide,
    wide_kind,
)
from tests.showing_by_names import all_names, shown_by_names

PLUS_NAME = ("name", "plus")
SAME = ("same", NAT, V0, V1)

# Each form of point 26, with x from without.
TEXTS = (
    (NAT, "nat"),
    (NONE, "none"),
    (("all", NAT, SAME), "(all a nat (same nat a x))"),
    (("some", NAT, SAME), "(some a nat (same nat a x))"),
    (("same", NAT, V0, ZERO), "(same nat x 0)"),
    (V0, "x"),
    (("fun", NAT, V0), "(fun a nat a)"),
    (("fun", NAT, V1), "(fun a nat x)"),
    (("app", V0, number(1)), "(app x 1)"),
    (ZERO, "0"),
    (("next", V0), "(next x)"),
    (("rec", SAME, V0, ZERO, number(2)), "(rec a (same nat a x) x 0 2)"),
    (("like", NAT, V0), "(like nat x)"),
    (("carry", SAME, ZERO, V0), "(carry a (same nat a x) 0 x)"),
    (("never", NONE, V0), "(never none x)"),
    (("pair", ("some", NAT, SAME), ZERO, V0), "(pair (some a nat (same nat a x)) 0 x)"),
    (("first", V0), "(first x)"),
    (("second", V0), "(second x)"),
    (PLUS_NAME, "plus"),
)


def first_names(count):
    """The names that binders may have, in order."""
    return list(itertools.islice((name for name in all_names() if name not in WORDS), count))


def renamed(thing, choose):
    """The thing with another name for each name of a book."""
    if thing[0] == "name":
        return ("name", choose())
    return tuple(renamed(part, choose) if isinstance(part, tuple) else part for part in thing)


def read_back(thing, text, names):
    return read_kind(text, names) if thing[0] in ("nat", "none", "all", "some", "same") else read_term(text, names)


class ShowingTest(unittest.TestCase):
    """Point 28."""

    def assert_shown(self, wanted, thing, names=()):
        names = list(names)
        self.assertEqual(shown(thing, names), wanted)
        self.assertEqual(read_back(thing, wanted, names), thing)

    def test_each_form(self):
        for thing, text in TEXTS:
            self.assert_shown(text, thing, ["x"])

    def test_figures(self):
        self.assert_shown("0", ZERO)
        self.assert_shown("1", ("next", ZERO))
        self.assert_shown("9", number(9))
        self.assert_shown("10", number(10))
        self.assert_shown("38", number(38))
        self.assert_shown("39", number(39))

    def test_figures_beneath_other_things(self):
        self.assert_shown("(app 0 2)", ("app", ZERO, number(2)))
        self.assert_shown("(same nat 3 12)", ("same", NAT, number(3), number(12)))
        self.assert_shown("(fun a (same nat 1 0) 4)", ("fun", ("same", NAT, number(1), ZERO), number(4)))
        self.assert_shown("(first (second 7))", ("first", ("second", number(7))))
        self.assert_shown("(next (first 2))", ("next", ("first", number(2))))

    def test_next_over_what_is_no_figure(self):
        self.assert_shown("(next x)", ("next", V0), ["x"])
        self.assert_shown("(next (next x))", deep(3, V0), ["x"])
        self.assert_shown("(next plus)", ("next", PLUS_NAME))
        self.assert_shown("(next (next (app plus 1)))", deep(3, ("app", PLUS_NAME, number(1))))
        self.assert_shown("(fun a nat (next a))", ("fun", NAT, ("next", V0)))

    def test_binders_one_within_the_other(self):
        self.assert_shown("(fun a nat (fun b nat (app a b)))", under(2, ("app", V1, V0)))
        self.assert_shown("(all a nat (some b nat (same nat a b)))",
                          ("all", NAT, ("some", NAT, ("same", NAT, V1, V0))))
        self.assert_shown("(fun a nat (rec b (all c nat nat) 0 a a))",
                          ("fun", NAT, ("rec", ("all", NAT, NAT), ZERO, V0, V0)))

    def test_binders_side_by_side(self):
        self.assert_shown("(app (fun a nat a) (fun a nat a))", ("app", under(1, V0), under(1, V0)))
        self.assert_shown("(fun a nat (app (fun b nat a) (fun b nat b)))",
                          ("fun", NAT, ("app", under(1, V1), under(1, V0))))

    def test_a_binder_stands_over_one_child_alone(self):
        self.assert_shown("(all a (all a nat nat) (all b nat nat))", ("all", ("all", NAT, NAT), ("all", NAT, NAT)))
        self.assert_shown("(some a (all a nat nat) (all b nat nat))", ("some", ("all", NAT, NAT), ("all", NAT, NAT)))
        self.assert_shown("(fun a (all a nat nat) (fun b nat a))", ("fun", ("all", NAT, NAT), under(1, V1)))
        self.assert_shown("(rec a (all b nat nat) (fun a nat a) (fun a nat 0) (fun a nat a))",
                          ("rec", ("all", NAT, NAT), under(1, V0), under(1, ZERO), under(1, V0)))
        self.assert_shown("(carry a (all b nat nat) (fun a nat a) (fun a nat 0))",
                          ("carry", ("all", NAT, NAT), under(1, V0), under(1, ZERO)))

    def test_variables_from_without_under_binders(self):
        thing = ("app", V1, under(2, at(V0, V1, V2, var(3))))
        self.assert_shown("(app y (fun a nat (fun b nat (app (app (app b a) x) y))))", thing, ["x", "y"])

    def test_names_handed_in_are_no_binders(self):
        self.assert_shown("(fun b nat a)", under(1, V1), ["a"])
        self.assert_shown("(fun c nat (fun d nat (app c b)))", under(2, ("app", V1, var(3))), ["a", "b"])
        self.assert_shown("(fun a nat (fun c nat b))", under(2, V2), ["b"])
        self.assert_shown("(fun a nat a)", under(1, V0), ["b"])

    def test_names_handed_in_that_are_not_spoken_of(self):
        self.assert_shown("(fun b nat b)", under(1, V0), ["a"])
        self.assert_shown("(fun b nat (fun d nat b))", under(2, V1), ["x", "a", "c"])

    def test_names_of_a_book_are_no_binders(self):
        self.assert_shown("(fun b nat a)", under(1, ("name", "a")))
        self.assert_shown("(fun b nat (fun c nat (app a b)))", under(2, ("app", ("name", "a"), V1)))
        self.assert_shown("(fun a nat (fun c nat b))", under(2, ("name", "b")))

    def test_names_of_a_book_behind_beside_and_ahead_of_the_binder(self):
        a = ("name", "a")
        self.assert_shown("(app (fun b nat b) a)", ("app", under(1, V0), a))
        self.assert_shown("(app a (fun b nat b))", ("app", a, under(1, V0)))
        self.assert_shown("(app (fun b nat b) (fun b nat a))", ("app", under(1, V0), under(1, a)))
        self.assert_shown("(fun b (same nat 0 a) b)", ("fun", ("same", NAT, ZERO, a), V0))
        self.assert_shown("(rec b nat 0 0 a)", ("rec", NAT, ZERO, ZERO, a))
        self.assert_shown("(next (first (app (fun c nat (next b)) a)))",
                          ("next", ("first", ("app", under(1, ("next", ("name", "b"))), a))))

    def test_names_of_a_book_and_handed_in_together(self):
        self.assert_shown("(fun d nat (app (app (app a b) c) d))",
                          under(1, at(("name", "a"), V1, ("name", "c"), V0)), ["b"])

    def test_other_names_of_a_book_take_none(self):
        self.assert_shown("(fun a nat (app plus a))", under(1, ("app", PLUS_NAME, V0)))

    def test_more_than_26_binders(self):
        names = first_names(39)
        self.assertEqual(names[25:28] + names[38:], ["z", "aa", "ab", "am"])
        text = "".join(f"(fun {name} nat " for name in names)
        self.assert_shown(text + "a" + ")" * 39, under(39, var(38)))
        self.assert_shown(text + "z" + ")" * 39, under(39, var(13)))
        self.assert_shown(text + "aa" + ")" * 39, under(39, var(12)))
        self.assert_shown(text + "am" + ")" * 39, under(39, V0))

    def test_more_than_52_names(self):
        for count in (25, 26, 27, 51, 52, 53, 77, 78, 79, 98):
            names = first_names(count + 2)
            handed, own = names[:count], names[count:]
            text = f"(fun {own[0]} nat (fun {own[1]} nat (app {own[1]} {handed[-1]})))"
            self.assert_shown(text, under(2, ("app", V0, var(count + 1))), handed)
        self.assertEqual(first_names(53)[51:], ["az", "ba"])
        self.assert_shown("(fun ba nat ba)", under(1, V0), first_names(52))
        self.assert_shown("(fun az nat (fun ba nat az))", under(2, V1), first_names(51))

    def test_more_than_52_binders_and_names(self):
        handed = first_names(60)
        own = first_names(99)[60:]
        text = "".join(f"(all {name} nat " for name in own[:38]) + f"(same nat {own[37]} a)" + ")" * 38
        thing = ("same", NAT, V0, var(38))
        for count in range(38):
            thing = ("all", NAT, thing)
        self.assert_shown(text, thing, handed)

    def test_behind_two_letters_come_three(self):
        names = first_names(703)
        self.assertEqual(names[701:], ["zz", "aaa"])
        self.assert_shown("(fun zz nat (fun aaa nat zz))", under(2, V1), names[:701])
        self.assert_shown("(fun aaa nat aaa)", under(1, V0), names[:702])
        self.assert_shown("(fun m nat (fun aaa nat (app m aaa)))", under(2, ("app", V1, V0)),
                          names[:12] + names[13:702])

    def test_one_of_the_eighteen_words_is_no_binder(self):
        for word, after in (("all", "alm"), ("app", "apq"), ("fun", "fuo"), ("nat", "nau")):
            names = list(itertools.takewhile(lambda name: name != word, all_names()))
            names = [name for name in names if name not in WORDS]
            self.assert_shown(f"(fun {after} nat {after})", under(1, V0), names)
            self.assert_shown(f"(fun {names[-1]} nat (fun {after} nat 0))", under(2, ZERO), names[:-1])

    def test_names_handed_in_in_whatever_order(self):
        self.assert_shown("(fun d nat (app (app (app d c) a) b))", under(1, at(V0, V1, V2, var(3))), ["c", "a", "b"])
        self.assert_shown("(fun a nat (app long y))", under(1, ("app", V1, V2)), ["long", "y"])

    def test_just_as_many_names_more_and_one_too_few(self):
        for thing, count in (
            (V0, 1), (V2, 3), (var(39), 40), (var(99), 100), (under(1, V1), 1), (under(1, var(3)), 3),
            (("app", V2, V0), 3), (("app", V0, V2), 3), (("all", SAME, NAT), 2), (("all", NAT, SAME), 1),
            (("rec", SAME, ZERO, ZERO, ZERO), 1), (("rec", NAT, V1, ZERO, ZERO), 2),
            (under(3, ("app", V2, var(4))), 2),
        ):
            names = [name for name in first_names(140) if len(name) > 1][:count + 3]
            self.assertEqual(free_in(thing)[-1] + 1, count)
            for enough in (count, count + 1, count + 3):
                self.assert_shown(shown_by_names(thing, names[:enough]), thing, names[:enough])
            assert_refused(self, NoVariable, shown, thing, names[:count - 1])
            assert_refused(self, NoVariable, shown, thing, [])

    def test_without_free_variables_and_without_names(self):
        own = ("rec", ("same", NAT, V0, V0), ZERO, ZERO, ZERO)
        for thing in (ZERO, NAT, under(1, V0), PLUS, TIMES, TURN_KIND, own):
            self.assertEqual(free_in(thing), [])
            self.assert_shown(shown_by_names(thing, []), thing)

    def test_one_blank_between_words_and_none_within_brackets(self):
        for thing in many_terms(200, 281, top=3) + many_kinds(100, 282, top=3):
            text = shown(thing, ["x", "y", "w"])
            self.assertRegex(text, r"\A[a-z0-9() ]*\Z")
            for pair in ("  ", "( ", " )", ")(", "()"):
                self.assertNotIn(pair, text)
            self.assertEqual(text, text.strip())

    def test_the_greatest_things(self):
        self.assert_shown(shown_by_names(wide(600), []), wide(600))
        self.assert_shown(shown_by_names(wide_kind(600), []), wide_kind(600))
        self.assert_shown(shown_by_names(deep_kind(40), []), deep_kind(40))

    def test_somewhat_beyond_the_bounds(self):
        self.assertEqual(shown(number(40), []), "40")
        self.assertEqual(shown(number(50), []), "50")
        self.assertEqual(shown(wide(610), []), shown_by_names(wide(610), []))
        text = "".join(f"(fun {name} nat " for name in first_names(55))
        self.assertEqual(shown(under(55, V0), []), text + "bc" + ")" * 55)
        self.assertEqual(shown(under(55, V2), []), text + "ba" + ")" * 55)
        self.assertEqual(shown(var(104), first_names(105)), first_names(105)[-1])

    def test_as_by_names_and_read_again(self):
        chance = random.Random(283)
        pool = first_names(60) + ["long", "names", "too"]
        for thing in list(KINDS + TERMS) + many_terms(500, 284) + many_kinds(250, 285):
            need = max(free_in(thing), default=-1) + 1
            names = chance.sample(pool, need + chance.randrange(6))
            self.assert_shown(shown_by_names(thing, names), thing, names)

    def test_with_names_of_a_book_by_chance(self):
        chance = random.Random(286)
        words = ["a", "b", "c", "d", "e", "f"]
        for thing in many_terms(400, 287):
            thing = renamed(thing, lambda: chance.choice(words))
            need = max(free_in(thing), default=-1) + 1
            names = chance.sample([name for name in first_names(30) if name not in words], need)
            self.assert_shown(shown_by_names(thing, names), thing, names)

    def test_a_book(self):
        for kind, term in SOUND.values():
            self.assert_shown(shown_by_names(kind, []), kind)
            self.assert_shown(shown_by_names(term, []), term)

    def test_the_names_stay_and_nothing_is_kept(self):
        names = ["x", "y"]
        thing = under(1, ("app", V1, V2))
        self.assertEqual(shown(thing, names), "(fun a nat (app x y))")
        self.assertEqual(names, ["x", "y"])
        names[0] = "a"
        self.assertEqual(shown(thing, names), "(fun b nat (app a y))")
        self.assertEqual(shown(thing, ["x", "y"]), "(fun a nat (app x y))")


if __name__ == "__main__":
    unittest.main()
