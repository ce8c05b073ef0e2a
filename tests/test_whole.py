"""What points 1 and 24 say over the whole program, with the small book and by the desk."""

import copy
import inspect
import random
import unittest

from keeper import errors
from keeper.basics import basics
from keeper.books import added
from keeper.desk import answers
from keeper.equality import alike, shows
from keeper.errors import (
    Dry, Great, NoName, NoPlace, NoStep, NotAll, NotClosed, NotSame, NotSome, NoText, NoVariable, NoWord, TwiceTold,
    Unlike,
)
from keeper.judging import kind_at, kind_of, let_by
from keeper.normal import normal
from keeper.places import at_place
from keeper.reading import read_kind, read_term
from keeper.showing import shown
from keeper.steps import stepped, steps_of
from keeper.things import is_kind, is_term, with_kids
from tests.books import at, number
from tests.changing import changed, is_true, outcome
from tests.interface import ARGUMENTS, calls
from tests.lawful import lawful
from tests.refusals import CLASSES, assert_refused
from tests.samples import NAT, NONE, V0, ZERO, many_terms

FUEL = 1000
BASICS = basics()
CLOSED = [(kind, term) for context, kind, term in lawful(320, 11, BASICS) if not context]

# Terms with their kinds, by the small book.
WRITTEN = (
    ("nat", "(app (app plus 3) 4)"),
    ("nat", "(first (app doubled 3))"),
    ("(all x nat nat)", "(app plus 3)"),
    ("(all x nat nat)", "(fun x nat (app (app plus x) x))"),
    ("(same nat (app (app plus 1) 2) (app (app plus 2) 1))", "(app (app commutes 1) 2)"),
    ("(all x nat (same nat (app (app plus x) 1) (next x)))", "(fun x nat (app (app plusnext x) 0))"),
    ("(all x nat (same nat x (app (app plus x) 0)))",
     "(fun x nat (app (app (app turnabout (app (app plus x) 0)) x) (app pluszero x)))"),
    ("(some x nat (same nat x 8))", "(app doubled 4)"),
    ("(same nat (first (app doubled 2)) 4)", "(second (app doubled 2))"),
    ("(all e none (same nat 0 1))", "(fun e none (never (same nat 0 1) e))"),
    ("(all p (some x nat (same nat x 2)) nat)", "(fun p (some x nat (same nat x 2)) (first p))"),
)


class DefinedTest(unittest.TestCase):
    """A term, defined by its kind, and what its reduced form is."""

    def assert_kept(self, kind, term):
        came = answers(f"define fresh {kind} {term}\nreduce fresh", FUEL)
        self.assertEqual(came[0], "defined", (kind, term))
        self.assertFalse(came[1].startswith("refused"), came)
        text = "\n".join((f"define fresh {kind} {term}", f"check {came[1]} {kind}", f"steps {came[1]}",
                          f"equal {came[1]} fresh", f"equal fresh {term}", f"reduce {came[1]}", "check fresh none"))
        self.assertEqual(answers(text, FUEL), ["defined", "good", "0", "equal", "equal", came[1], "refused: unlike"])

    def test_terms_that_are_written(self):
        for kind, term in WRITTEN:
            self.assert_kept(kind, term)

    def test_lawful_terms(self):
        self.assertGreater(len(CLOSED), 60)
        for kind, term in CLOSED:
            self.assert_kept(shown(kind, []), shown(term, []))


class StepsTest(unittest.TestCase):
    def assert_steps_keep_the_kind(self, term):
        """How many steps could be looked at."""
        own = kind_of([], term, FUEL, BASICS)
        count = 0
        for place, rule in steps_of(term, BASICS):
            after = outcome(stepped, term, place, BASICS)
            if after != Great:
                came = outcome(kind_of, [], after, FUEL, BASICS)
                self.assertIn(came if isinstance(came, type) else outcome(alike, came, own, FUEL, BASICS),
                              (True, Dry, Great), (term, place))
                count += 1
        return count

    def test_each_step_leaves_it_let_by_with_an_alike_kind(self):
        count = sum(self.assert_steps_keep_the_kind(term) for kind, term in CLOSED)
        count += sum(self.assert_steps_keep_the_kind(term) for kind, term in BASICS.values())
        count += sum(self.assert_steps_keep_the_kind(read_term(text, [])) for kind, text in WRITTEN)
        self.assertGreater(count, 150)

    def test_all_along_a_log(self):
        for kind, text in WRITTEN:
            term = read_term(text, [])
            own = kind_of([], term, FUEL, BASICS)
            for place, rule in normal(term, FUEL, BASICS)[1]:
                term = stepped(term, place, BASICS)
                self.assertIs(alike(kind_of([], term, FUEL, BASICS), own, FUEL, BASICS), True)


class TrueTest(unittest.TestCase):
    """Point 24, and that none has no terms without anything assumed."""

    def test_each_kind_that_is_told_is_true(self):
        chance = random.Random(12)
        terms = [term for kind, term in CLOSED] + [term for kind, term in BASICS.values()]
        terms += [changed(chance, term) for term in terms for count in range(4)]
        terms += many_terms(300, 13, depth=4, top=2)
        texts = [shown(term, []) for term in terms if term != Great and outcome(shown, term, []) != NoVariable]
        told = answers("\n".join("kind " + text for text in texts), FUEL)
        self.assertEqual(len(told), len(texts))
        kinds = [answer for answer in told if not answer.startswith("refused: ")]
        self.assertGreater(len(kinds), 200)
        for kind in kinds:
            self.assertTrue(is_true(read_kind(kind, [])), kind)
        for kind in ("none", "(same nat 0 1)", "(all x nat none)", "(some x nat none)"):
            checked = answers("\n".join(f"check {text} {kind}" for text in texts), FUEL)
            self.assertNotIn("good", checked)

    def test_terms_that_would_be_of_none(self):
        for text in (
            "(never none 0)", "(fun e none e)", "(app (fun e none e) 0)", "(first (pair (some x none nat) 0 0))",
            "(carry x none 0 (like nat 0))", "(rec x none 0 (fun n nat (fun r none r)) 0)", "liar",
            "(second (pair (some x nat none) 0 0))", "(app commutes 0)", "(never none (never none 0))",
            "(app (fun x none (app x x)) (fun x none (app x x)))",
        ):
            told = answers(f"check {text} none\ndefine liar none {text}\nkind liar", FUEL)
            self.assertNotIn("good", told)
            self.assertNotIn("defined", told)
            self.assertEqual(told[2], "refused: noname")

    def test_of_a_false_kind_nothing_can_be_added(self):
        chance = random.Random(14)
        for kind, term in CLOSED:
            for count in range(3):
                other, due = changed(chance, term), changed(chance, kind)
                for one, it in ((kind, other), (due, term), (due, other), (NONE, other)):
                    if Great not in (one, it) and isinstance(outcome(added, BASICS, "fresh", one, it, FUEL), dict):
                        self.assertTrue(is_true(one), (one, it))


class InterfaceTest(unittest.TestCase):
    def test_names_and_arguments(self):
        for module, function, arguments in ARGUMENTS:
            self.assertEqual(function.__module__, "keeper." + module)
            self.assertEqual(list(inspect.signature(function).parameters), arguments.split(), function)
            self.assertTrue(inspect.isfunction(function))

    def test_each_one_is_called_below(self):
        self.assertEqual({function for module, function, arguments in ARGUMENTS}, {call[0] for call in calls()})


def mutable_in(value):
    """The lists and dicts in it."""
    if isinstance(value, dict):
        return [value] + [found for part in value.values() for found in mutable_in(part)]
    if isinstance(value, (list, tuple)):
        own = [value] if isinstance(value, list) else []
        return own + [found for part in value for found in mutable_in(part)]
    return []


class OwnTest(unittest.TestCase):
    """What is handed in stays, and what is told is the asker's own."""

    def test_what_is_handed_in_stays(self):
        for function, values in calls():
            before = copy.deepcopy(values)
            function(*values)
            self.assertEqual(values, before, function)
            for one, other in zip(mutable_in(values), mutable_in(before)):
                self.assertEqual(list(one), list(other), function)

    def test_what_is_handed_in_stays_where_it_is_refused(self):
        for refusal, function, values in REFUSED:
            before = copy.deepcopy(values)
            assert_refused(self, refusal, function, *values)
            self.assertEqual(values, before, function)

    def test_an_answer_changed_behind_the_call_changes_no_later_one(self):
        for (function, values), (again, others) in zip(calls(), calls()):
            first = function(*values)
            wanted = copy.deepcopy(first)
            for found in mutable_in(first):
                found.clear()
            self.assertEqual(function(*values), wanted, function)
            self.assertEqual(again(*others), wanted, function)

    def test_what_was_told_stays_where_what_was_handed_in_is_changed(self):
        for place in range(len(calls())):
            function, values = calls()[place]
            first = function(*values)
            wanted = copy.deepcopy(first)
            for found in mutable_in(values):
                found.clear()
            self.assertEqual(first, wanted, function)

    def test_what_was_told_stays_where_something_else_is_asked(self):
        told = [function(*values) for function, values in calls()]
        wanted = copy.deepcopy(told)
        for function, values in reversed(calls()):
            function(*values)
        self.assertEqual(told, wanted)
        self.assertEqual([function(*values) for function, values in calls()], wanted)


# A call that is refused, for each class.
REFUSED = (
    (Great, with_kids, (("next", ZERO), [number(39)])),
    (NoPlace, at_place, (ZERO, (0,))),
    (NoStep, stepped, (ZERO, (), dict(BASICS))),
    (Dry, normal, (("name", "plus"), 0, dict(BASICS))),
    (NoVariable, kind_at, ([NAT], 1)),
    (NoVariable, shown, (V0, [])),
    (NoName, kind_of, ([], ("name", "gone"), FUEL, dict(BASICS))),
    (NotAll, kind_of, ([NAT], at(V0, V0), FUEL, dict(BASICS))),
    (NotSome, kind_of, ([NAT], ("first", V0), FUEL, dict(BASICS))),
    (NotSame, kind_of, ([NAT], ("carry", NAT, ZERO, V0), FUEL, dict(BASICS))),
    (Unlike, let_by, ([NAT], ("same", NONE, V0, V0), FUEL, dict(BASICS))),
    (NoText, read_term, ("(next", ["x"])),
    (NoWord, added, (dict(BASICS), "nat", NAT, ZERO, FUEL)),
    (TwiceTold, added, (dict(BASICS), "plus", NAT, ZERO, FUEL)),
    (NotClosed, added, (dict(BASICS), "fresh", NAT, V0, FUEL)),
)


class RefusalsTest(unittest.TestCase):
    def test_each_class_is_met(self):
        self.assertEqual({refusal for refusal, function, values in REFUSED}, set(CLASSES))

    def test_each_is_taken_by_its_own_class_and_those_above_alone(self):
        for refusal, function, values in REFUSED:
            assert_refused(self, refusal, function, *values)

    def test_the_classes_of_the_interface(self):
        self.assertEqual({found.__name__ for found in CLASSES}, {
            "Great", "NoPlace", "NoStep", "Dry", "NoVariable", "NoName", "NotAll", "NotSome", "NotSame", "Unlike",
            "NoText", "NoWord", "TwiceTold", "NotClosed",
        })
        self.assertTrue(issubclass(errors.KeeperError, ValueError))


class TruthsTest(unittest.TestCase):
    """A truth is no number."""

    def test_truths(self):
        for truth in (True, False):
            self.assertIs(is_term(("var", truth)), False)
            self.assertIs(is_kind(("same", NAT, ("var", truth), ZERO)), False)
            assert_refused(self, NoPlace, at_place, ("app", ZERO, ZERO), (truth,))
            self.assertIs(shows(("app", ZERO, ZERO), ("app", ZERO, V0),
                                (("app", ZERO, ZERO), ("app", ZERO, V0), [], [], (truth,)), {}), False)

    def test_places_and_counts_that_are_told_are_numbers(self):
        self.assertEqual(repr(steps_of(("app", ZERO, ("name", "plus")), BASICS)), "[((1,), 'name')]")
        self.assertEqual(answers("steps (app 0 plus)", FUEL), ["1"])


if __name__ == "__main__":
    unittest.main()
