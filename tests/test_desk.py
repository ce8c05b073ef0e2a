import random
import unittest

from keeper.basics import basics
from keeper.desk import answers
from keeper.errors import (
    Dry, Great, NoName, NotAll, NotSame, NotSome, NoText, NoWord, TwiceTold, Unlike,
)
from keeper.judging import kind_of
from keeper.normal import normal
from keeper.reading import read_term
from keeper.showing import shown
from keeper.words import words_of
from tests.desk_by_trees import answers_by_trees
from tests.samples import WORDS
from tests.test_basics import TOLD

FUEL = 1000
SUM = "(app (app plus 2) 2)"
# What is read as a term, but refused.
BAD = (
    (Unlike, "(next (like nat 0))"),
    (NoName, "gone"),
    (NotAll, "(app 0 0)"),
    (NotSome, "(first 0)"),
    (NotSome, "(pair nat 0 0)"),
    (NotSame, "(carry x nat 0 0)"),
)
# Steps without end, each time to itself.
LOOP = "(app (fun x nat (app x x)) (fun x nat (app x x)))"
GROWS = "(app (fun x nat (next (app x x))) (fun x nat (next (app x x))))"
TOO_GREAT = "(next 39)"


def wide_text(levels):
    """A sum of so many levels; from 8 on it is too great."""
    return "1" if levels == 0 else f"(app (app plus {wide_text(levels - 1)}) {wide_text(levels - 1)})"


def told_by(refusal):
    return "refused: " + refusal.__name__.lower()


class DeskTest(unittest.TestCase):
    """Point 31."""

    def assert_row(self, wanted, row, fuel=FUEL):
        """The answer to a row, and that the rows round it are answered as if it were not there."""
        self.assertEqual(answers(row, fuel), [wanted], row)
        self.assertEqual(answers(f"steps 0\n{row}\nsteps plus", fuel), ["0", wanted, "1" if fuel else "refused: dry"])

    def assert_refused(self, refusal, row, fuel=FUEL):
        self.assert_row(told_by(refusal), row, fuel)


class RowsTest(DeskTest):
    def test_define(self):
        for row in ("define two nat 2", "define abcdefghijkl nat 2", "define twice (all x nat nat) (fun x nat x)",
                    "define sum (same nat (app (app plus 2) 2) 4) (like nat 4)", "define kind nat 0",
                    "define define nat 0", "define check nat zero"):
            self.assert_row("defined", row)

    def test_kind(self):
        for term, kind in (
            ("0", "nat"), ("zero", "nat"), ("39", "nat"), ("(app plus 3)", "(all a nat nat)"),
            ("(fun x nat x)", "(all a nat nat)"),
            ("(like nat (app (app plus 1) 2))", "(same nat (app (app plus 1) 2) (app (app plus 1) 2))"),
            ("(fun b nat (app pluszero b))", "(all a nat (same nat (app (app plus a) 0) a))"),
            ("(app doubled 2)", "(some a nat (same nat a (app (app plus 2) 2)))"),
            ("(fun e none (never (same nat 0 1) e))", "(all a none (same nat 0 1))"),
            ("(second (app doubled 2))",
             "(same nat (first (app doubled 2)) (app (app plus 2) 2))"),
        ):
            self.assert_row(kind, "kind " + term)

    def test_kinds_of_the_small_book(self):
        for (name, text), told in zip(TOLD, answers("\n".join("kind " + name for name, text in TOLD), FUEL)):
            self.assertEqual(told, shown(basics()[name][0], []))

    def test_check(self):
        for row in ("check 0 nat", "check plus (all x nat (all y nat nat))", f"check (like nat 4) (same nat {SUM} 4)",
                    "check (pair (some x nat nat) 1 2) (some y nat nat)", "check (fun x none x) (all y none none)",
                    "check (app (app commutes 2) 3) (same nat 5 5)"):
            self.assert_row("good", row)

    def test_reduce(self):
        for term, wanted in (
            ("0", "0"), (SUM, "4"), ("(fun y nat (app (app plus y) 1))", "(fun a nat (next a))"),
            ("(first (app doubled 3))", "6"), ("(app (app times 3) 4)", "12"), ("gone", "gone"),
            ("(fun x nat (app gone x))", "(fun a nat (app gone a))"), ("(app (app commutes 1) 1)", "(like nat 2)"),
        ):
            self.assert_row(wanted, "reduce " + term)

    def test_steps(self):
        for term, wanted in (("0", "0"), ("plus", "1"), ("(app (fun x nat x) 0)", "1"), ("gone", "0"),
                             ("(app (fun x nat (app (app plus x) x)) 0)", "5")):
            self.assert_row(wanted, "steps " + term)
        count = len(normal(read_term("(app (app times 3) 4)", []), FUEL, basics())[1])
        self.assertGreater(count, 9)
        self.assert_row(str(count), "steps (app (app times 3) 4)")

    def test_equal(self):
        for row, wanted in (
            ("equal 0 0", "equal"), ("equal 0 1", "unlike"), (f"equal {SUM} 4", "equal"), (f"equal 4 {SUM}", "equal"),
            (f"equal {SUM} 5", "unlike"), ("equal (fun x nat x) (fun y nat y)", "equal"), ("equal gone gone", "equal"),
            ("equal gone lost", "unlike"), ("equal gone (fun x nat (app gone x))", "unlike"),
            ("equal zero 0", "equal"), ("equal 0 (like nat 0)", "unlike"),
        ):
            self.assert_row(wanted, row)

    def test_what_is_reduced_or_compared_need_not_be_let_by(self):
        self.assert_row("(app 0 0)", "reduce (app 0 0)")
        self.assert_row("0", "reduce (first (pair nat 0 1))")
        self.assert_row("1", "steps (second (pair nat 0 gone))")
        self.assert_row("equal", "equal (app 0 (app (fun x none x) 1)) (app 0 1)")
        self.assert_row("unlike", "equal (first 0) (second 0)")


class RefusedTest(DeskTest):
    def test_define(self):
        for refusal, term in BAD:
            self.assert_refused(refusal, f"define fresh nat {term}")
            self.assert_refused(refusal, f"define fresh (same nat {term} 0) 0")
        self.assert_refused(Unlike, "define fresh nat (like nat 0)")
        self.assert_refused(Unlike, "define fresh none 0")
        self.assert_refused(TwiceTold, "define plus nat 0")
        self.assert_refused(NoText, "define fresh 0 nat")
        self.assert_refused(NoName, "define fresh nat fresh")
        self.assert_refused(NoName, "define fresh (same nat fresh 0) 0")
        self.assert_refused(Great, f"define fresh nat {TOO_GREAT}")
        self.assert_refused(Great, f"define fresh (same nat 0 {TOO_GREAT}) 0")
        self.assert_refused(Great, f"define fresh nat (like nat {wide_text(6)})")
        self.assert_refused(Dry, f"define fresh (same nat {SUM} 4) (like nat 4)", 5)

    def test_names_that_are_none(self):
        for name in WORDS + ("abcdefghijklm", "A", "Two", "a1", "1", "0", "39", "40", "a_b", "x.", "!", "~", "a-b",
                             "'a'"):
            self.assert_refused(NoWord, f"define {name} nat 0")

    def test_names_of_the_small_book(self):
        for name, text in TOLD:
            self.assert_refused(TwiceTold, f"define {name} nat 0")
            self.assert_refused(TwiceTold, f"define {name} {text} {name}")

    def test_kind(self):
        for refusal, term in BAD:
            self.assert_refused(refusal, f"kind {term}")
        self.assert_refused(NoText, "kind nat")
        self.assert_refused(Great, f"kind {TOO_GREAT}")
        self.assert_refused(Great, f"kind (like nat {wide_text(6)})")
        self.assert_refused(Dry, f"kind (app (fun x (same nat {SUM} 4) 0) (like nat 4))", 5)
        self.assert_refused(NoName, "kind (fun x nat y)")

    def test_check(self):
        for refusal, term in BAD:
            self.assert_refused(refusal, f"check {term} nat")
            self.assert_refused(refusal, f"check 0 (same nat {term} 0)")
        self.assert_refused(Unlike, "check 0 none")
        self.assert_refused(Unlike, f"check (like nat 4) (same nat {SUM} 5)")
        self.assert_refused(Unlike, "check plus (all x nat nat)")
        self.assert_refused(Great, f"check {TOO_GREAT} nat")
        self.assert_refused(Great, f"check 0 (same nat {TOO_GREAT} 0)")
        self.assert_refused(Great, f"check (like nat {wide_text(6)}) nat")
        self.assert_refused(Dry, f"check (like nat 4) (same nat {SUM} 4)", 5)
        self.assert_refused(NoText, "check nat 0")
        self.assert_refused(NoText, "check 0 0")
        self.assert_refused(NoText, "check nat nat")

    def test_reduce_and_steps(self):
        for word in ("reduce", "steps"):
            self.assert_refused(Dry, f"{word} {LOOP}")
            self.assert_refused(Dry, f"{word} {SUM}", 5)
            self.assert_refused(Great, f"{word} {GROWS}")
            self.assert_refused(Great, f"{word} {TOO_GREAT}")
            self.assert_refused(Great, f"{word} (app (app plus 20) 20)")
            self.assert_refused(NoText, f"{word} nat")
            self.assert_refused(NoText, f"{word} (same nat 0 0)")

    def test_equal(self):
        for row in ("equal {} 0", "equal 0 {}", "equal {0} {0}"):
            self.assert_refused(Dry, row.format(LOOP))
            self.assert_refused(Dry, row.format(SUM), 5)
            self.assert_refused(Great, row.format(GROWS))
            self.assert_refused(Great, row.format(TOO_GREAT))
            self.assert_refused(NoText, row.format("nat"))
        self.assert_refused(Dry, f"equal {LOOP} {GROWS}")
        self.assert_refused(Great, f"equal {GROWS} {LOOP}")

    def test_fuel_that_is_just_enough_and_one_less(self):
        count = int(answers(f"steps {SUM}", FUEL)[0])
        for row, answer in (
            (f"reduce {SUM}", "4"), (f"steps {SUM}", str(count)), (f"equal {SUM} 4", "equal"),
            (f"equal 3 {SUM}", "unlike"), (f"check (like nat 4) (same nat {SUM} 4)", "good"),
            (f"define sum (same nat {SUM} 4) (like nat 4)", "defined"),
            (f"kind (app (fun x (same nat {SUM} 4) 0) (like nat 4))", "nat"),
        ):
            self.assert_row(answer, row, count)
            self.assert_row(answer, row, count + 1)
            self.assert_refused(Dry, row, count - 1)
            self.assert_refused(Dry, row, 0)

    def test_without_fuel(self):
        self.assert_row("nat", f"kind {SUM}", 0)
        self.assert_row("0", "steps gone", 0)
        self.assert_row("defined", f"define sum nat {SUM}", 0)
        self.assert_row("good", f"check {SUM} nat", 0)

    def test_each_reducing_begins_with_the_whole_fuel(self):
        count = int(answers(f"steps {SUM}", FUEL)[0])
        self.assertEqual(answers(f"reduce {SUM}\nequal {SUM} {SUM}\nsteps {SUM}", count), ["4", "equal", str(count)])


class FormTest(DeskTest):
    """What a row must be like, ahead of all else."""

    def test_another_word(self):
        for row in ("foo", "foo 0", "Kind 0", "KIND 0", "kinds 0", "kin 0", "0", "nat", "plus", "kind: 0",
                    "define: a nat 0", "reduces 0", "step 0", "refused: notext", "zero 0", "defined", "1 0",
                    "-", "~ 0", "'kind' 0"):
            self.assert_refused(NoText, row)

    def test_brackets_ahead(self):
        for row in ("(kind 0)", "(kind) 0", "( kind 0", ") kind 0", "(", ")", "()", "((kind 0))", "(define a nat 0)"):
            self.assert_refused(NoText, row)

    def test_things_lacking_or_too_many(self):
        for row in ("define", "define fresh", "define fresh nat", "define fresh nat 0 0", "define nat 0", "kind",
                    "kind 0 0", "kind fun x nat x", "check", "check 0", "check 0 nat nat", "check 0 nat 0", "reduce",
                    "reduce 0 0", "steps", "steps 0 0", "equal", "equal 0", "equal 0 0 0", "reduce app 0 0",
                    "kind next 0"):
            self.assert_refused(NoText, row)

    def test_things_lacking_or_too_many_come_ahead_of_all(self):
        for row in (f"kind {TOO_GREAT} 0", f"kind 0 {TOO_GREAT}", f"equal {TOO_GREAT}", f"check {TOO_GREAT}",
                    "define plus nat", "define nat nat", f"define plus nat {TOO_GREAT} 0", f"define A {TOO_GREAT}",
                    f"reduce {LOOP} 0", f"equal {LOOP} {LOOP} {LOOP}", f"steps {TOO_GREAT} {TOO_GREAT}",
                    "define plus nat 0 0"):
            self.assert_refused(NoText, row)

    def test_a_name_that_is_a_bracket_or_a_whole_thing(self):
        for name in ("(", ")", "()", "(fresh)", "(next 0)", "(app a b)", "((a))", "(a", "a)", ")a(", "(a b"):
            for rest in ("nat 0", "nat 0)", "(nat 0", f"nat {TOO_GREAT}", "nat gone", "nat 0 0"):
                self.assert_refused(NoText, f"define {name} {rest}")

    def test_brackets_lacking_or_too_many(self):
        for row in ("kind (next 0)", "check (next 0) (same nat 0 0)", "equal (app gone 0) (app (fun x nat x) 0)",
                    "define fresh (all x nat nat) (fun x nat (next x))", "reduce (fun x (same nat 0 0) (like nat 0))"):
            words = words_of(row)
            for place, word in enumerate(words):
                if word in "()":
                    self.assert_refused(NoText, " ".join(words[:place] + words[place + 1:]))
                for extra in "()":
                    self.assert_refused(NoText, " ".join(words[:place] + [extra] + words[place:]))
            for extra in "()":
                self.assert_refused(NoText, row + extra)
                self.assert_refused(NoText, row + " " + extra)

    def test_brackets_the_wrong_way_round(self):
        for row in ("kind )next 0(", "kind )0(", "equal 0) (0", "equal (next 0 (next 0))", "equal )( )(",
                    "check 0) (nat", "define fresh) (nat 0"):
            self.assert_refused(NoText, row)

    def test_brackets_that_do_not_match_come_ahead_of_what_is_too_great(self):
        # How many things there are can't be told then.
        for row in (f"equal {TOO_GREAT} (next 0", f"equal {TOO_GREAT} )", f"check {TOO_GREAT} nat)",
                    f"define fresh (same nat 0 {TOO_GREAT}) (next", f"kind {TOO_GREAT})", f"equal {TOO_GREAT} 0) (0"):
            self.assert_refused(NoText, row)

    def test_a_kind_for_a_term_and_a_term_for_a_kind(self):
        for row in ("kind nat", "kind (all x nat nat)", "reduce none", "steps (same nat 0 0)", "equal nat nat",
                    "equal 0 nat", "equal nat 0", "check nat nat", "check 0 0", "check nat 0", "define fresh 0 0",
                    "define fresh nat nat", "define fresh plus 0", "kind (next nat)", "check 0 (all x 0 nat)"):
            self.assert_refused(NoText, row)

    def test_things_that_cannot_be_read(self):
        for thing in ("()", "(foo 0)", "(next)", "(next 0 0)", "(fun nat nat 0)", "(nat)", "(0)", "(plus)", "40",
                      "007", "A", "fun", "var", "(var 0)", "(name plus)", "abcdefghijklm", "(all x nat 0)",
                      "x1", "((next 0))"):
            for row in ("kind {}", "reduce {}", "steps {}", "equal {} 0", "equal 0 {}", "check {} nat", "check 0 {}",
                        "define fresh {} 0", "define fresh nat {}", "define plus nat {}", "define nat nat {}",
                        "define A {} 0", "check gone {}", "equal " + LOOP + " {}"):
                self.assert_refused(NoText, row.format(thing))

    def test_reading_comes_ahead_of_the_rest(self):
        for name in ("nat", "A", "plus", "abcdefghijklm"):
            self.assert_refused(Great, f"define {name} nat {TOO_GREAT}")
            self.assert_refused(Great, f"define {name} (same nat 0 {TOO_GREAT}) 0")
        self.assert_refused(Great, f"check {TOO_GREAT} (same nat gone 0)")
        self.assert_refused(Great, f"check gone (same nat {TOO_GREAT} 0)")
        self.assert_refused(Great, f"equal {LOOP} {TOO_GREAT}")

    def test_a_name_comes_ahead_of_the_kind_and_the_term(self):
        self.assert_refused(NoWord, "define nat (same nat gone 0) (app 0 0)")
        self.assert_refused(TwiceTold, "define plus (same nat gone 0) (app 0 0)")
        self.assert_refused(NoName, "define fresh (same nat gone 0) (app 0 0)")

    def test_in_check_the_kind_is_looked_at_ahead_of_the_term(self):
        for refusal, term in BAD:
            for other_refusal, other in BAD:
                self.assert_refused(refusal, f"check {other} (same nat {term} 0)")

    def test_too_great_or_not_to_be_read_at_once(self):
        for row in (f"equal {TOO_GREAT} (foo)", f"equal (foo) {TOO_GREAT}", f"check {TOO_GREAT} 0"):
            self.assertIn(answers(row, FUEL), ([told_by(Great)], [told_by(NoText)]))

    def test_many_brackets(self):
        for count, wanted in ((39, "nat"), (40, told_by(Great)), (500, told_by(Great))):
            self.assert_row(wanted, "kind " + "(next " * count + "0" + ")" * count)
        self.assert_refused(NoText, "kind " + "(next " * 500 + "0" + ")" * 499)
        self.assert_refused(NoText, "kind " + "(next " * 500 + "0" + ")" * 501)
        self.assert_refused(NoText, "kind " + "(" * 500)
        self.assert_refused(NoText, "equal " + "(next " * 500 + "nat" + ")" * 500 + " 0")


class TextTest(DeskTest):
    def test_rows_without_words(self):
        for text in ("", " ", "\n", "\n\n\n", "  \n \n  ", "\n "):
            self.assertEqual(answers(text, FUEL), [])

    def test_several_line_ends_and_blanks(self):
        self.assertEqual(answers("\n\nkind 0\n\n\n  \nsteps 0\n\n", FUEL), ["nat", "0"])
        self.assertEqual(answers("kind 0\nsteps 0", FUEL), ["nat", "0"])
        self.assertEqual(answers("  kind   0  \n  steps  (next   ( first 0 ) )", FUEL), ["nat", "0"])

    def test_brackets_need_no_blanks(self):
        self.assertEqual(answers("kind(next 0)\nequal(next 0)(next 0)\ndefine a nat(next 0)", FUEL),
                         ["nat", "equal", "defined"])

    def test_a_row_ends_with_its_line(self):
        self.assertEqual(answers("kind\n0", FUEL), [told_by(NoText)] * 2)
        self.assertEqual(answers("kind (next\n0)", FUEL), [told_by(NoText)] * 2)
        self.assertEqual(answers("define a nat\n0\nkind 0", FUEL), [told_by(NoText)] * 2 + ["nat"])

    def test_an_answer_for_each_row_in_order(self):
        rows = ["kind 0", "foo", "steps plus", "equal 0 1", "reduce 3", "kind (", "check 0 nat"]
        wanted = ["nat", told_by(NoText), "1", "unlike", "3", told_by(NoText), "good"]
        self.assertEqual(answers("\n".join(rows), FUEL), wanted)
        self.assertEqual(answers("\n \n".join(reversed(rows)), FUEL), wanted[::-1])


class BookTest(DeskTest):
    def test_what_is_defined_is_spoken_of_later(self):
        text = "\n".join((
            "kind three", "define three nat 3", "kind three", "reduce three", "equal three 3",
            "define six nat (app (app plus three) three)", "reduce six",
            "define known (same nat six 6) (like nat three)", "define known (same nat six 6) (like nat 6)",
            "kind known", "check known (same nat 6 six)", "reduce known", "kind (app (app turnabout six) 6)",
        ))
        self.assertEqual(answers(text, FUEL), [
            "refused: noname", "defined", "nat", "3", "equal", "defined", "6", "refused: unlike", "defined",
            "(same nat six 6)", "good", "(like nat 6)", "(all a (same nat six 6) (same nat 6 six))",
        ])

    def test_what_was_refused_is_not_there(self):
        for row in ("define fresh none 0", "define fresh nat gone", "define fresh nat", "define fresh nat 0 0",
                    f"define fresh nat {TOO_GREAT}", "define fresh nat fresh", "define fresh nat (foo)"):
            told = answers(f"{row}\nkind fresh\nreduce fresh\ndefine fresh nat 1\nreduce fresh", FUEL)
            self.assertEqual(told[1:], ["refused: noname", "fresh", "defined", "1"])
            self.assertTrue(told[0].startswith("refused: "))

    def test_a_refused_row_leaves_what_was_defined(self):
        self.assertEqual(
            answers("define one nat 1\ndefine one nat 2\nreduce one\n"
                    "define plus nat 0\nreduce (app (app plus one) one)", FUEL),
            ["defined", "refused: twicetold", "1", "refused: twicetold", "2"])

    def test_other_rows_define_nothing(self):
        self.assertEqual(answers("check 3 nat\nreduce three\nkind 3\nequal 3 3\nkind three", FUEL),
                         ["good", "three", "nat", "equal", "refused: noname"])

    def test_binders_that_have_a_name_of_the_book(self):
        self.assertEqual(answers("reduce (fun plus nat plus)\nkind (fun plus nat (app (app times plus) plus))", FUEL),
                         ["(fun a nat a)", "(all a nat nat)"])

    def test_shown_with_names_of_the_book(self):
        told = answers("define a nat 1\ndefine c nat 1\nkind (fun x nat (like nat a))\n"
                       "kind (fun x nat (fun y nat (like nat c)))", FUEL)
        self.assertEqual(told[2:], ["(all b nat (same nat a a))", "(all a nat (all b nat (same nat c c)))"])

    def test_the_same_text_twice(self):
        text = "define two nat 2\nreduce (app (app plus two) two)\ndefine two nat 3\nreduce two"
        wanted = ["defined", "4", "refused: twicetold", "2"]
        first = answers(text, FUEL)
        self.assertEqual(first, wanted)
        self.assertEqual(answers(text, FUEL), wanted)
        first.clear()
        self.assertEqual(answers(text, FUEL), wanted)
        self.assertEqual(answers("kind two", FUEL), ["refused: noname"])

    def test_a_text_within_a_text_twice(self):
        text = "define two nat 2\nreduce two\n"
        self.assertEqual(answers(text + text, FUEL), ["defined", "2", "refused: twicetold", "2"])


ROWS = (
    "define two nat 2", "define three nat (next two)", "define sum (same nat (app (app plus 2) 2) 4) (like nat 4)",
    "kind (fun x nat (like nat x))", "check (like nat 4) (same nat (app (app plus 2) 2) 4)", "check two nat",
    "reduce (app (app plus two) (next 0))", "steps (app (fun x nat x) two)", "equal (next two) 3",
    "equal (first (pair (some x nat nat) two 1)) 2", "kind (app commutes two)",
    "check (app doubled 1) (some b nat nat)", "kind (carry y (same nat y 2) (like nat 2) (like nat two))",
    "reduce (fun e none (never nat e))",
    "kind (rec x nat 0 (fun n nat (fun r nat r)) two)", "kind (second (app doubled two))",
)
EXTRA = ("(", ")", "nat", "0", "two", "x", "fun", "next", "A", "define", "kind", "gone", "app", "40")
GREAT_EXTRA = ("39", "38", "( next 39 )", "( next ( next 38 ) )")


def parts_of(words):
    """Where each word, or each bracket with all that is in it, begins and ends."""
    parts = []
    for begin, word in enumerate(words):
        end = begin + 1
        while words[begin:end].count("(") > words[begin:end].count(")") and end < len(words):
            end += 1
        parts.append((begin, end))
    return parts


def disturbed(chance, row, extra):
    """A word more, less or another one, or a part in the place of another one."""
    words = words_of(row)
    for count in range(chance.randrange(3)):
        place = chance.randrange(1, len(words) + 1)
        choice = chance.randrange(5)
        if choice == 0 and len(words) > 1:
            words = words[:place - 1] + words[place:]
        elif choice == 1:
            words = words[:place] + [chance.choice(extra)] + words[place:]
        elif choice == 2:
            words = words[:place - 1] + [chance.choice(extra)] + words[place:]
        else:
            begin, end = chance.choice(parts_of(words)[place - 1:])
            other_begin, other_end = chance.choice(parts_of(words))
            words = words[:begin] + words[other_begin:other_end] + words[end:]
    return " ".join(words)


class ByTreesTest(unittest.TestCase):
    def assert_by_trees(self, chance, rows, extra):
        """The answers that were seen."""
        seen = {}
        for count in range(150):
            text = "\n".join(disturbed(chance, chance.choice(rows), extra) for row in range(12))
            told = answers(text, 60)
            self.assertEqual(told, answers_by_trees(text, 60), text)
            seen.update({answer: True for answer in told})
        return seen

    def test_rows_disturbed_by_chance(self):
        seen = self.assert_by_trees(random.Random(311), ROWS, EXTRA)
        for refusal in ("notext", "noword", "twicetold", "noname", "notall", "unlike"):
            self.assertIn("refused: " + refusal, seen)
        for answer in ("defined", "good", "equal", "unlike", "nat", "3"):
            self.assertIn(answer, seen)

    def test_rows_of_one_thing_that_may_be_too_great(self):
        rows = [row for row in ROWS if row.split()[0] in ("kind", "reduce", "steps")]
        self.assertIn("refused: great", self.assert_by_trees(random.Random(312), rows, EXTRA + GREAT_EXTRA))


class AgreesTest(unittest.TestCase):
    def test_what_is_told_is_what_the_functions_tell(self):
        book = basics()
        for name, (kind, term) in book.items():
            told = answers(f"kind {shown(term, [])}\nreduce {name}\nsteps {name}", FUEL)
            self.assertEqual(told[0], shown(kind_of([], term, FUEL, book), []))
            came = normal(("name", name), FUEL, book)
            self.assertEqual(told[1:], [shown(came[0], []), str(len(came[1]))])


if __name__ == "__main__":
    unittest.main()
