import random
import unittest

from keeper.errors import Great, KeeperError, NoText
from keeper.putting import free_in
from keeper.reading import read_kind, read_term
from keeper.things import depth_of, is_kind, is_term, size_of
from tests.books import PLUS, PLUS_KIND, at, number
from tests.refusals import assert_refused
from tests.samples import (
    KINDS, NAT, NONE, TERMS, V0, V1, V2, WORDS, ZERO, deep, deep_kind, many_kinds, many_terms, under, var, wide,
    wide_kind,
)
from tests.writing import letters, read_by_trees, written

X, Y, BOOKISH = ("name", "x"), ("name", "y"), ("name", "plus")
SOME = ("some", NAT, NAT)

# Each form of point 26, with x from without.
TERM_TEXTS = (
    ("zero", ZERO),
    ("0", ZERO),
    ("3", number(3)),
    ("x", V0),
    ("plus", BOOKISH),
    ("(fun y nat y)", ("fun", NAT, V0)),
    ("(fun y nat x)", ("fun", NAT, V1)),
    ("(app x 1)", ("app", V0, number(1))),
    ("(next x)", ("next", V0)),
    ("(rec y (same nat y x) x y zero)", ("rec", ("same", NAT, V0, V1), V0, Y, ZERO)),
    ("(like nat x)", ("like", NAT, V0)),
    ("(carry y (same nat y x) y x)", ("carry", ("same", NAT, V0, V1), Y, V0)),
    ("(never none x)", ("never", NONE, V0)),
    ("(pair (some y nat nat) 0 x)", ("pair", SOME, ZERO, V0)),
    ("(first x)", ("first", V0)),
    ("(second x)", ("second", V0)),
)
KIND_TEXTS = (
    ("nat", NAT),
    ("none", NONE),
    ("(all y nat (same nat y x))", ("all", NAT, ("same", NAT, V0, V1))),
    ("(some y nat (same nat y x))", ("some", NAT, ("same", NAT, V0, V1))),
    ("(same nat x 2)", ("same", NAT, V0, number(2))),
)


def brackets(count, head, inside, tail=""):
    """So many brackets, one within the other."""
    return head * count + inside + (tail + ")") * count


class ReadingTest(unittest.TestCase):
    """Points 26 and 27."""

    def assert_term(self, wanted, text, names=()):
        self.assertEqual(read_term(text, list(names)), wanted)

    def assert_kind(self, wanted, text, names=()):
        self.assertEqual(read_kind(text, list(names)), wanted)

    def assert_no_text(self, text, names=()):
        assert_refused(self, NoText, read_term, text, list(names))
        assert_refused(self, NoText, read_kind, text, list(names))


class FormsTest(ReadingTest):
    def test_each_form(self):
        for text, wanted in TERM_TEXTS:
            self.assert_term(wanted, text, ["x"])
            self.assertTrue(is_term(read_term(text, ["x"])))
        for text, wanted in KIND_TEXTS:
            self.assert_kind(wanted, text, ["x"])
            self.assertTrue(is_kind(read_kind(text, ["x"])))

    def test_a_kind_where_a_term_is_due_and_the_other_way_round(self):
        for text, wanted in TERM_TEXTS:
            assert_refused(self, NoText, read_kind, text, ["x"])
        for text, wanted in KIND_TEXTS:
            assert_refused(self, NoText, read_term, text, ["x"])

    def test_at_each_part(self):
        right = {"k": "nat", "t": "zero"}
        wrong = {"k": ("zero", "0", "x", "(next zero)", "(first x)"), "t": ("nat", "none", "(same nat 0 0)")}
        for head, dues, read in (
            ("all x", "kk", read_kind), ("some x", "kk", read_kind), ("same", "ktt", read_kind),
            ("fun x", "kt", read_term), ("app", "tt", read_term), ("next", "t", read_term),
            ("rec x", "kttt", read_term), ("like", "kt", read_term), ("carry x", "ktt", read_term),
            ("never", "kt", read_term), ("pair", "ktt", read_term), ("first", "t", read_term),
            ("second", "t", read_term),
        ):
            parts = [right[due] for due in dues]
            thing = read("(" + head + " " + " ".join(parts) + ")", [])
            self.assertEqual(thing, (head.split()[0],) + tuple((part,) for part in parts))
            for place, due in enumerate(dues):
                for other in wrong[due]:
                    text = "(" + head + " " + " ".join(parts[:place] + [other] + parts[place + 1:]) + ")"
                    self.assert_no_text(text)
                self.assert_no_text("(" + head + " " + " ".join(parts[:place] + parts[place + 1:]) + ")")
                self.assert_no_text("(" + head + " " + " ".join(parts[:place + 1] + parts[place:]) + ")")

    def test_longer_ones(self):
        self.assert_term(PLUS, "(fun a nat (fun b nat (rec x nat a (fun n nat (fun r nat (next r))) b)))")
        self.assert_kind(PLUS_KIND, "(all a nat (all b nat nat))")
        self.assert_kind(("all", NAT, ("same", NAT, at(BOOKISH, V0, ZERO), V0)),
                         "(all a nat (same nat (app (app plus a) 0) a))")

    def test_blanks_and_line_ends(self):
        wanted = ("fun", NAT, ("next", V0))
        for text in ("(fun x nat (next x))", "(fun x nat(next x))", " ( fun  x\nnat\n\n( next x ) )\n",
                     "(\nfun\nx\nnat\n(\nnext\nx\n)\n)", "\n\n(fun x nat (next x))  "):
            self.assert_term(wanted, text)
        self.assert_term(ZERO, "\n zero \n")
        self.assert_no_text("ze ro")
        self.assert_no_text("ze\nro")

    def test_samples(self):
        names = [letters(count) for count in range(500, 540)]
        for thing in TERMS + tuple(many_terms(400, 92)):
            self.assert_term(thing, written(thing, names), names)
        for thing in KINDS + tuple(many_kinds(200, 93)):
            self.assert_kind(thing, written(thing, names), names)


class NamesTest(ReadingTest):
    def test_of_the_nearest_binder(self):
        self.assert_term(under(1, V0), "(fun x nat x)")
        self.assert_term(under(2, V0), "(fun x nat (fun x nat x))")
        self.assert_term(under(3, V1), "(fun x nat (fun x nat (fun y nat x)))")
        self.assert_kind(("all", NAT, ("some", NAT, ("same", NAT, V0, V0))), "(all x nat (some x nat (same nat x x)))")

    def test_of_one_further_out(self):
        self.assert_term(under(2, V1), "(fun x nat (fun y nat x))")
        self.assert_term(under(3, V2), "(fun x nat (fun y nat (fun z nat x)))")
        self.assert_kind(("all", NAT, ("all", NAT, ("same", NAT, V1, V0))), "(all x nat (all y nat (same nat x y)))")

    def test_over_the_part_that_is_not_bound(self):
        for names, outer in (([], X), (["x"], V0), (["y", "x"], V1)):
            inner, over = [var(outer[1] + more) if outer[0] == "var" else outer for more in (1, 2)]
            self.assert_kind(("all", ("same", NAT, outer, ZERO), ("same", NAT, V0, ZERO)),
                             "(all x (same nat x 0) (same nat x 0))", names)
            self.assert_kind(("some", ("same", NAT, outer, ZERO), ("same", NAT, V0, ZERO)),
                             "(some x (same nat x 0) (same nat x 0))", names)
            self.assert_term(("fun", ("same", NAT, outer, ZERO), V0), "(fun x (same nat x 0) x)", names)
            self.assert_term(("rec", ("same", NAT, V0, V0), outer, outer, outer),
                             "(rec x (same nat x x) x x x)", names)
            self.assert_term(("carry", ("same", NAT, V0, V0), outer, outer), "(carry x (same nat x x) x x)", names)
            self.assert_term(("fun", NAT, ("rec", ("same", NAT, V0, over), inner, V0, inner)),
                             "(fun w nat (rec v (same nat v x) x w x))", names)

    def test_behind_the_bracket_of_its_binder(self):
        self.assert_term(("app", ("fun", NAT, V0), X), "(app (fun x nat x) x)")
        self.assert_term(under(1, ("app", ("fun", NAT, V0), V0)), "(fun x nat (app (fun x nat x) x))")
        self.assert_term(under(1, ("app", ("fun", NAT, V1), V0)), "(fun x nat (app (fun y nat x) x))")

    def test_from_without(self):
        names = ["a", "b", "c", "b", "a"]
        for name, place in (("a", 0), ("b", 1), ("c", 2)):
            self.assert_term(var(place), name, names)
            self.assert_term(under(1, var(place + 1)), "(fun x nat " + name + ")", names)
            self.assert_term(under(2, var(place + 2)), "(fun x nat (fun y nat " + name + "))", names)
        self.assert_term(under(1, V0), "(fun b nat b)", names)
        self.assert_kind(("same", NAT, V2, V1), "(same nat c b)", names)

    def test_of_a_book(self):
        self.assert_term(BOOKISH, "plus")
        self.assert_term(("name", "d"), "d", ["a", "b"])
        self.assert_term(under(2, BOOKISH), "(fun x nat (fun y nat plus))", ["z"])
        self.assert_term(V0, "plus", ["plus"])
        self.assert_term(under(1, V0), "(fun plus nat plus)")

    def test_words_in_the_place_of_a_name(self):
        self.assertEqual(len(WORDS), 18)
        for word in WORDS:
            if word not in ("nat", "none", "zero"):
                self.assert_no_text(word)
            for text in ("(fun W nat 0)", "(rec W nat 0 0 0)", "(carry W nat 0 0)"):
                assert_refused(self, NoText, read_term, text.replace("W", word), [])
            for text in ("(all W nat nat)", "(some W nat nat)"):
                assert_refused(self, NoText, read_kind, text.replace("W", word), [])
            for more in (word + "s", "a" + word):
                self.assert_term(("name", more), more)
                self.assert_term(under(1, V0), "(fun M nat M)".replace("M", more))

    def test_no_names(self):
        for wrong in ("X", "xY", "x1", "1x", "x-y", "x_y", "x.", "'x'", "x,", "~", "*", "-", "a" * 13, "b" * 40,
                      "abcdefghijklm", "xX", "Ab", "!", "x;y", "{x}", "\\x", "#", "\"x\""):
            self.assert_no_text(wrong)
            self.assert_no_text("(fun " + wrong + " nat 0)")
            self.assert_no_text("(all " + wrong + " nat nat)")
            self.assert_no_text("(next " + wrong + ")")
        self.assert_no_text("(fun (x) nat 0)")
        self.assert_no_text("(fun 0 nat 0)")
        self.assert_no_text("(fun 12 nat 0)")
        self.assert_no_text("(fun ) nat 0)")

    def test_other_letters(self):
        for wrong in ("\u00e4", "x\u00e9", "\u0663", "\u00b2", "\t", "x\ty", "\u03bb", "x\r", "\u00a0"):
            self.assert_no_text(wrong)

    def test_names_of_one_to_twelve_letters(self):
        for name in list("abcdefghijklmnopqrstuvwxyz") + ["abcdefghijkl", "z" * 12, "az"]:
            self.assert_term(("name", name), name)
            self.assert_term(V0, name, [name])
            self.assert_term(under(1, V0), "(fun " + name + " nat " + name + ")")


class FiguresTest(ReadingTest):
    def test_from_nought_to_thirty_nine(self):
        for count in range(40):
            self.assert_term(number(count), str(count))
            self.assertEqual(size_of(read_term(str(count), [])), count + 1)
        self.assert_term(("app", number(10), number(29)), "(app 10 29)")

    def test_no_others(self):
        for wrong in ("40", "41", "99", "100", "390", "00", "01", "07", "039", "010", "000", "-1", "+1", "1.", "1_0",
                      "0x1", "1e1", "3a", "a3", "4" * 6000, "0" * 6000, "-0", "\u0661", "1\u0661"):
            self.assert_no_text(wrong)
            self.assert_no_text("(next " + wrong + ")")
            self.assert_no_text("(same nat " + wrong + " 0)")

    def test_where_a_kind_is_due(self):
        assert_refused(self, NoText, read_kind, "0", [])
        for text in ("(all x 0 nat)", "(all x nat 3)", "(fun x 1 0)", "(like 0 0)"):
            self.assert_no_text(text)


class NoTextTest(ReadingTest):
    def test_nothing_at_all(self):
        for text in ("", " ", "\n", "  \n \n"):
            self.assert_no_text(text)

    def test_two_things_in_a_row(self):
        for text in ("zero zero", "nat nat", "0 1", "x y", "(next 0) 0", "0 (next 0)", "(next 0)(next 0)",
                     "nat (same nat 0 0)", "(next 0) )", "zero nat", "nat zero"):
            self.assert_no_text(text, ["x"])

    def test_a_bracket_too_many_or_too_few(self):
        for text, thing in TERM_TEXTS + KIND_TEXTS:
            for wrong in (text + ")", "(" + text, ")" + text, text + "(", "(" + text + ")", "((" + text + "))",
                          text + "()", "()" + text):
                self.assert_no_text(wrong, ["x"])
            if text.endswith(")"):
                self.assert_no_text(text[:-1], ["x"])
                self.assert_no_text(text[1:], ["x"])

    def test_round_a_single_word(self):
        for word in WORDS + ("x", "y", "0", "7", "39", "plus"):
            self.assert_no_text("(" + word + ")", ["x"])
            self.assert_no_text("( " + word + " )", ["x"])
            self.assert_no_text("(next (" + word + "))", ["x"])

    def test_brackets_alone(self):
        for text in ("(", ")", "()", ")(", "(()", "())", "(())", "()()", "((", "))"):
            self.assert_no_text(text)

    def test_other_words_at_the_front(self):
        for text in ("(var 0)", "(name x)", "(name plus)", "(x y)", "(plus 0 0)", "(zero 0)", "(nat nat)", "(none 0)",
                     "(0 0)", "((fun x nat x) 0)", "(() 0)", "(turn x 0)", "(Next 0)", "(next) 0", "next 0", "same nat 0 0",
                     "(let x 0)"):
            self.assert_no_text(text, ["x"])

    def test_binders_without_a_name(self):
        for text in ("(fun nat 0)", "(all nat nat)", "(some nat nat)", "(rec nat 0 0 0)", "(carry nat 0 0)", "(fun",
                     "(fun x", "(all", "(all x", "(fun x)", "(fun)", "(rec", "(fun x nat", "(fun (same nat 0 0) 0)",
                     "(fun x y nat 0)"):
            self.assert_no_text(text, ["x"])

    def test_names_where_none_is_due(self):
        for text in ("(app x nat 0)", "(next x 0)", "(same x nat 0 0)", "(like x nat 0)", "(never x nat 0)",
                     "(first x 0)", "(pair x (some y nat nat) 0 0)"):
            self.assert_no_text(text, ["x"])

    def test_the_sign_that_no_text_has(self):
        for text in ("%", "x%", "(next %)", "0%"):
            self.assert_no_text(text)


class GreatTest(ReadingTest):
    """Points 5 and 27."""

    def test_knots(self):
        names = ["x"]
        self.assert_term(wide(600), written(wide(600), names), names)
        self.assert_kind(wide_kind(600), written(wide_kind(600), names), names)
        assert_refused(self, Great, read_term, written(wide(601), names), names)
        assert_refused(self, Great, read_kind, written(wide_kind(601), names), names)
        assert_refused(self, Great, read_term, written(wide(5000), names), names)

    def test_knots_in_figures(self):
        def halves(texts):
            while len(texts) > 1:
                texts = ["(app " + one + " " + other + ")" for one, other in zip(texts[::2], texts[1::2])]
            return texts[0]

        # Fifteen times 36 knots, 15 above them, and the rest.
        self.assertEqual(size_of(read_term(halves(["35"] * 15 + ["(app 33 9)"]), [])), 600)
        assert_refused(self, Great, read_term, halves(["35"] * 15 + ["(app 33 10)"]), [])
        assert_refused(self, NoText, read_term, halves(["35"] * 15 + ["(app 33 40)"]), [])

    def test_depth(self):
        self.assert_term(deep(40), brackets(39, "(next ", "zero"))
        self.assert_term(deep(40), "(next 38)")
        self.assert_term(deep(40), "39")
        for text in (brackets(40, "(next ", "zero"), "(next 39)", brackets(39, "(next ", "1"), "(first 39)"):
            assert_refused(self, Great, read_term, text, [])
        self.assert_kind(deep_kind(40), brackets(39, "(all x nat ", "nat"))
        assert_refused(self, Great, read_kind, brackets(40, "(all x nat ", "nat"), [])
        self.assertEqual(depth_of(read_kind("(same nat 38 0)", [])), 40)
        assert_refused(self, Great, read_kind, "(same nat 39 0)", [])

    def test_variables(self):
        names = [letters(count) for count in range(120)]
        self.assert_term(var(99), names[99], names)
        assert_refused(self, Great, read_term, names[100], names)
        assert_refused(self, Great, read_term, names[119], names)
        self.assert_term(under(3, var(99)), brackets(3, "(fun x nat ", names[96]), names)
        assert_refused(self, Great, read_term, brackets(3, "(fun x nat ", names[97]), names)
        self.assert_term(("name", letters(120)), letters(120), names)
        self.assert_kind(("same", NAT, var(99), ZERO), "(same nat " + names[99] + " 0)", names)
        assert_refused(self, Great, read_kind, "(same nat " + names[100] + " 0)", names)
        # It is the first of that name that counts.
        self.assert_term(V0, "x", ["x"] * 120)
        self.assert_term(V1, "x", ["y", "x"] + ["x"] * 120)
        assert_refused(self, Great, read_term, "x", ["y"] * 100 + ["x"])
        self.assert_term(var(99), "x", ["y"] * 99 + ["x"] * 2)

    def test_no_text_ahead_of_great(self):
        names = [letters(count) for count in range(120)]
        big, deeper = written(wide(700), []), brackets(100, "(next ", "zero")
        for text in (big + ")", "(" + big, big + " 0", "(app " + big + " nat)", "(app " + big + " 40)",
                     "(app nat " + big + ")", "(app " + big + " X)", "(fun nat nat " + big + ")",
                     "(first " + big + " 0)", deeper + ")", deeper[:-1],
                     "(app " + deeper + " 00)", "(app " + deeper + " (zero))", "(app " + deeper + ")",
                     "(app " + names[110] + " 40)", names[110] + " " + names[110], "(" + names[110] + ")",
                     "(next " + names[110], "(app (next 39) 40)", "(app (next 39))"):
            self.assert_no_text(text, names)
        assert_refused(self, NoText, read_kind, big, [])
        assert_refused(self, NoText, read_kind, deeper, [])
        assert_refused(self, NoText, read_kind, names[110], names)
        assert_refused(self, NoText, read_term, written(wide_kind(700), []), [])
        assert_refused(self, Great, read_term, "(app (next 39) 0)", [])

    def test_many_brackets_open_at_once(self):
        for count in (41, 100, 250, 400, 499, 500):
            for head, inside, tail, read in (
                ("(next ", "zero", "", read_term),
                ("(fun x nat ", "x", "", read_term),
                ("(app ", "0", " 0", read_term),
                ("(app 0 ", "0", "", read_term),
                ("(all x nat ", "nat", "", read_kind),
                ("(some y nat ", "nat", "", read_kind),
                ("(all x ", "nat", " nat", read_kind),
                ("(rec x nat 0 0 ", "0", "", read_term),
                ("(carry x nat ", "0", " 0", read_term),
                ("(same (all x nat nat) ", "0", " 0", None),
            ):
                text = brackets(count, head, inside, tail)
                if read is not None:
                    assert_refused(self, Great, read, text, [])
                else:
                    self.assert_no_text(text)
                for wrong in (text + ")", text[:-1], "(" + text, head * count, head * count + inside,
                              brackets(count, head, "X", tail), brackets(count, head, "()", tail), text + " 0",
                              brackets(count, head, "", tail)):
                    self.assert_no_text(wrong)
            self.assert_no_text("(" * count)
            self.assert_no_text("(" * count + ")" * count)
            self.assert_no_text(")" * count)


class KeepsNothingTest(ReadingTest):
    """Point 1."""

    def test_names_stay(self):
        names = ["x", "y", "x"]
        for text, thing in TERM_TEXTS:
            read_term(text, names)
        for text in ("", "(fun x nat", "40", "(fun y nat X)"):
            assert_refused(self, NoText, read_term, text, names)
            assert_refused(self, NoText, read_kind, text, names)
        assert_refused(self, Great, read_term, "(next 39)", names)
        self.assertEqual(names, ["x", "y", "x"])

    def test_changed_behind_the_call(self):
        names = ["x", "y"]
        told = read_term("(app x y)", names)
        names.reverse()
        self.assertEqual(told, ("app", V0, V1))
        self.assertEqual(read_term("(app x y)", names), ("app", V1, V0))
        names.clear()
        self.assertEqual(read_term("(app x y)", names), ("app", X, Y))

    def test_a_refusal_changes_no_later_answer(self):
        assert_refused(self, NoText, read_term, "(fun x nat (fun y nat (next ", [])
        self.assert_term(("app", X, Y), "(app x y)")


class ByAnotherWayTest(ReadingTest):
    def outcome(self, function, *values):
        try:
            return function(*values)
        except KeeperError as refusal:
            return type(refusal)

    def assert_as_by_trees(self, text, names):
        told = self.outcome(read_term, text, names)
        self.assertEqual(told, self.outcome(read_by_trees, text, names, "t"), text)
        other = self.outcome(read_kind, text, names)
        self.assertEqual(other, self.outcome(read_by_trees, text, names, "k"), text)
        return [sort if sort in (NoText, Great) else "thing" for sort in (told, other)]

    def shadowed(self, chance, text):
        """With fewer names than binders."""
        for name in sorted(set(text.replace("(", " ").replace(")", " ").split())):
            if name[0] == "q":
                text = (" " + text).replace(" " + name, " " + chance.choice("xyzw") + " ").strip()
        return text

    def test_things_with_names_of_several_binders(self):
        chance = random.Random(94)
        names = ["x", "y", "x", "z"]
        seen = []
        for thing in many_terms(300, 95) + many_kinds(200, 96):
            text = self.shadowed(chance, written(thing, [letters(count) for count in range(900, 940)]))
            seen += self.assert_as_by_trees(text, names)
        self.assertGreater(seen.count("thing"), 300)

    def test_texts_that_are_changed_somewhere(self):
        chance = random.Random(97)
        words = ["(", ")", "nat", "zero", "x", "y", "0", "39", "40", "next", "fun", "all", "X", "(next", "0)"]
        seen = []
        for thing in many_terms(300, 98, depth=4) + many_kinds(150, 99, depth=4):
            text = written(thing, ["x", "y", "z", "w", "v", "u"] + [letters(count) for count in range(900, 940)])
            for count in range(4):
                parts = text.replace("(", "( ").replace(")", " )").split()
                place = chance.randrange(len(parts))
                change = chance.randrange(3)
                if change == 0:
                    parts.pop(place)
                elif change == 1:
                    parts.insert(place, chance.choice(words))
                else:
                    parts[place] = chance.choice(words)
                seen += self.assert_as_by_trees(" ".join(parts), ["x", "y"])
        self.assertGreater(seen.count(NoText), 300)
        self.assertGreater(seen.count("thing"), 100)

    def test_words_by_chance(self):
        chance = random.Random(101)
        for count in range(2000):
            words = ("(", ")", " ", " ", "nat ", "zero ", "x ", "next ", "fun ", "0", "3", "same ", "\n")
            text = "".join(chance.choice(words) for word in range(chance.randrange(12)))
            self.assert_as_by_trees(text, ["x"])

    def test_free_variables_are_those_from_without(self):
        names = [letters(count) for count in range(900, 940)]
        for thing in many_terms(100, 102):
            self.assertEqual(free_in(read_term(written(thing, names), names)), free_in(thing))


if __name__ == "__main__":
    unittest.main()
