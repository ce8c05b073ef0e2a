import unittest

from keeper.basics import basics
from keeper.books import added
from keeper.deriving import derived
from keeper.equality import alike
from keeper.judging import kind_of, let_by
from keeper.looking import faults_of
from keeper.normal import normal
from keeper.putting import free_in
from keeper.reading import read_kind, read_term
from keeper.showing import shown
from keeper.things import is_kind, is_term
from tests.books import at, number
from tests.changing import is_true
from tests.judging_by_names import kind_by_names, let_by_names
from tests.samples import NAT, ZERO
from tests.valuing import normal_by_values

FUEL = 1000

# Word for word as point 30 has them.
TOLD = (
    ("plus", "(all a nat (all b nat nat))"),
    ("times", "(all a nat (all b nat nat))"),
    ("turnabout", "(all a nat (all b nat (all e (same nat a b) (same nat b a))))"),
    ("through", "(all a nat (all b nat (all c nat (all d (same nat a b) (all e (same nat b c) (same nat a c))))))"),
    ("nexts", "(all a nat (all b nat (all e (same nat a b) (same nat (next a) (next b)))))"),
    ("pluszero", "(all a nat (same nat (app (app plus a) 0) a))"),
    ("plusnext", "(all a nat (all b nat (same nat (app (app plus a) (next b)) (next (app (app plus a) b)))))"),
    ("commutes", "(all a nat (all b nat (same nat (app (app plus a) b) (app (app plus b) a))))"),
    ("doubled", "(all a nat (some b nat (same nat b (app (app plus a) a))))"),
)


def kind(text):
    return read_kind(text, [])


def term(text):
    return read_term(text, [])


class BasicsTest(unittest.TestCase):
    """Point 30."""

    def setUp(self):
        self.book = basics()

    def assert_good(self, text, kind_text):
        own = kind_of([], term(text), FUEL, self.book)
        self.assertIs(alike(own, kind(kind_text), FUEL, self.book), True, text)

    def assert_reduces(self, wanted, text):
        self.assertEqual(shown(normal(term(text), FUEL, self.book)[0], []), wanted)

    def test_the_names_in_order(self):
        self.assertEqual(list(self.book), [name for name, text in TOLD])

    def test_the_kinds(self):
        for name, text in TOLD:
            self.assertEqual(self.book[name][0], kind(text))

    def test_it_is_a_book(self):
        for name, pair in self.book.items():
            self.assertIs(type(pair), tuple)
            self.assertEqual(len(pair), 2)
            self.assertTrue(is_kind(pair[0]) and is_term(pair[1]), name)
            self.assertEqual(free_in(pair[0]) + free_in(pair[1]), [], name)

    def test_it_is_sound(self):
        ahead = {}
        for name, (its_kind, its_term) in self.book.items():
            self.assertIs(let_by([], its_kind, FUEL, ahead), True)
            self.assertIs(alike(kind_of([], its_term, FUEL, ahead), its_kind, FUEL, ahead), True, name)
            self.assertTrue(is_true(its_kind))
            ahead[name] = (its_kind, its_term)

    def test_it_is_sound_by_names_too(self):
        ahead = {}
        for name, (its_kind, its_term) in self.book.items():
            self.assertIs(let_by_names([], its_kind, FUEL, ahead), True)
            self.assertEqual(kind_by_names([], its_term, FUEL, ahead), kind_of([], its_term, FUEL, ahead))
            ahead[name] = (its_kind, its_term)

    def test_it_can_be_added_name_by_name(self):
        book = {}
        for name, (its_kind, its_term) in self.book.items():
            book = added(book, name, its_kind, its_term, FUEL)
        self.assertEqual(list(book.items()), list(self.book.items()))

    def test_each_term_can_be_derived(self):
        ahead = {}
        for name, (its_kind, its_term) in self.book.items():
            rows = derived([], its_term, FUEL, ahead)
            self.assertEqual(faults_of(rows, ahead), [], name)
            ahead[name] = (its_kind, its_term)

    def test_sums(self):
        for one in range(13):
            for other in range(13 - one):
                for fuel in (FUEL, 10 * FUEL):
                    came = normal(at(("name", "plus"), number(one), number(other)), fuel, self.book)[0]
                    self.assertEqual(came, number(one + other))

    def test_products(self):
        for one in range(13):
            for other in range(13):
                if one * other <= 12:
                    came = normal(at(("name", "times"), number(one), number(other)), FUEL, self.book)[0]
                    self.assertEqual(came, number(one * other))

    def test_products_of_nought_and_great_numbers(self):
        for count in range(13, 36):
            self.assert_reduces("0", f"(app (app times {count}) 0)")
            self.assert_reduces("0", f"(app (app times 0) {count})")
        for count in range(36, 39):
            self.assert_reduces("0", f"(app (app times 0) {count})")

    def test_sums_and_products_by_values(self):
        for one in range(7):
            for other in range(7):
                for name, wanted in (("plus", one + other), ("times", one * other)):
                    whole = at(("name", name), number(one), number(other))
                    self.assertEqual(normal_by_values(whole, self.book), number(wanted))

    def test_sums_and_products_of_what_is_no_number_yet(self):
        self.assert_reduces("7", "(app (app plus (app (app plus 1) 2)) (app (app plus 4) 0))")
        self.assert_reduces("12", "(app (app times (app (app times 2) 3)) (app (app plus 1) 1))")

    def test_what_each_shows(self):
        for text, kind_text in (
            ("(app (app (app turnabout (app (app plus 1) 2)) 3) (like nat 3))", "(same nat 3 (app (app plus 2) 1))"),
            ("(app (app (app (app (app through 2) (app (app plus 1) 1)) 2) (like nat 2)) (like nat 2))",
             "(same nat 2 2)"),
            ("(app (app (app nexts 2) (app (app plus 1) 1)) (like nat 2))", "(same nat 3 (next (app (app plus 1) 1)))"),
            ("(fun x nat (app pluszero x))", "(all x nat (same nat (app (app plus x) 0) x))"),
            ("(fun x nat (app (app plusnext x) x))",
             "(all x nat (same nat (app (app plus x) (next x)) (next (app (app plus x) x))))"),
            ("(fun x nat (app (app commutes x) 0))", "(all x nat (same nat x (app (app plus 0) x)))"),
            ("(app doubled 3)", "(some b nat (same nat b 6))"),
            ("(second (app doubled 3))", "(same nat 6 6)"),
        ):
            self.assert_good(text, kind_text)

    def test_what_is_shown_of_numbers_comes_to_like(self):
        for one in range(4):
            for other in range(4):
                self.assert_reduces(f"(like nat {one + other})", f"(app (app commutes {one}) {other})")
        for count in range(7):
            self.assert_reduces(str(2 * count), f"(first (app doubled {count}))")

    def test_the_sum_is_not_commuting_without_steps(self):
        # That it commutes is shown by the book's term, not seen by reducing.
        one = term("(fun x nat (fun y nat (app (app plus x) y)))")
        other = term("(fun x nat (fun y nat (app (app plus y) x)))")
        self.assertIs(alike(one, other, FUEL, self.book), False)


class OwnTest(unittest.TestCase):
    def test_the_same_book_again_where_one_was_changed(self):
        first = basics()
        wanted = list(first.items())
        first["plus"] = (NAT, ZERO)
        first.pop("times")
        first["fresh"] = (NAT, ZERO)
        self.assertEqual(list(basics().items()), wanted)
        basics().clear()
        self.assertEqual(list(basics().items()), wanted)

    def test_one_that_was_told_stays(self):
        first, second = basics(), basics()
        wanted = list(second.items())
        first.clear()
        self.assertEqual(list(second.items()), wanted)


if __name__ == "__main__":
    unittest.main()
