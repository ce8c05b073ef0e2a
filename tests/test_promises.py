"""What points 1 and 24 say of all that is let by, tried on many terms."""

import random
import unittest

from keeper.equality import alike, compared, parting, shows
from keeper.errors import Dry, Great
from keeper.judging import kind_of, let_by
from keeper.normal import normal
from keeper.putting import lifted
from keeper.steps import stepped, steps_of
from keeper.things import is_kind
from tests.books import SOUND
from tests.changing import changed, is_true, outcome
from tests.judging_by_names import kind_by_names, let_by_names
from tests.lawful import lawful
from tests.samples import NAT, many_kinds, many_terms
from tests.valuing import normal_by_values

FUEL = 500
LAWFUL = lawful(250, 61, SOUND)


class LetByTest(unittest.TestCase):
    def test_the_book_is_sound(self):
        ahead = {}
        for name, (kind, term) in SOUND.items():
            self.assertIs(let_by([], kind, FUEL, ahead), True)
            self.assertTrue(alike(kind_of([], term, FUEL, ahead), kind, FUEL, ahead), name)
            ahead[name] = (kind, term)

    def test_what_is_made_by_the_rules_is_let_by(self):
        for context, kind, term in LAWFUL:
            self.assertIs(let_by(context, kind, FUEL, SOUND), True)
            own = kind_of(context, term, FUEL, SOUND)
            self.assertTrue(is_kind(own))
            self.assertTrue(alike(own, kind, FUEL, SOUND), (context, kind, term))
            self.assertIn(outcome(let_by, context, own, FUEL, SOUND), (True, Dry, Great))

    def test_each_step_at_any_place_keeps_the_kind(self):
        count = 0
        for context, kind, term in LAWFUL:
            own = kind_of(context, term, FUEL, SOUND)
            for place, rule in steps_of(term, SOUND):
                after = outcome(stepped, term, place, SOUND)
                if after == Great:
                    continue
                came = outcome(kind_of, context, after, FUEL, SOUND)
                if came not in (Dry, Great):
                    self.assertIs(alike(came, own, FUEL, SOUND), True, (context, term, place))
                    count += 1
        self.assertGreater(count, 500)

    def test_each_step_within_a_kind_leaves_it_let_by(self):
        for context, kind, term in LAWFUL:
            for place, rule in steps_of(kind, SOUND):
                after = stepped(kind, place, SOUND)
                self.assertIs(let_by(context, after, FUEL, SOUND), True)

    def test_with_more_kinds_ahead(self):
        for context, kind, term in LAWFUL[:100]:
            own = kind_of(context, term, FUEL, SOUND)
            more = [("same", NAT, ("zero",), ("zero",))] + context
            self.assertEqual(kind_of(more, lifted(term, 1, 0), FUEL, SOUND), lifted(own, 1, 0))


class EqualTest(unittest.TestCase):
    def test_what_comes_is_what_comes_by_values(self):
        for context, kind, term in LAWFUL:
            for thing in (kind, term):
                self.assertEqual(normal(thing, FUEL, SOUND)[0], normal_by_values(thing, SOUND))

    def test_whichever_way_is_gone_it_comes_to_the_same(self):
        chance = random.Random(62)
        for context, kind, term in LAWFUL[:120]:
            here = term
            wanted = normal(term, FUEL, SOUND)[0]
            for count in range(5):
                steps = steps_of(here, SOUND)
                if steps:
                    here = stepped(here, chance.choice(steps)[0], SOUND)
            self.assertIs(alike(here, term, FUEL, SOUND), True)
            self.assertEqual(normal(here, FUEL, SOUND)[0], wanted)

    def test_equal_just_where_both_come_to_one_thing(self):
        for (context, kind, term), (other_context, other_kind, other) in zip(LAWFUL, LAWFUL[1:]):
            told = compared(term, other, FUEL, SOUND)
            one = normal_by_values(term, SOUND) == normal_by_values(other, SOUND)
            self.assertIs(told[4] is None, one)
            self.assertIs(parting(told[0], told[1]) is None, one)
            self.assertIs(shows(term, other, told, SOUND), True)


class AsByNamesTest(unittest.TestCase):
    def assert_as_by_names(self, context, term):
        told = outcome(kind_of, context, term, FUEL, SOUND)
        if told != Great:
            self.assertEqual(told, outcome(kind_by_names, context, term, FUEL, SOUND), (context, term))
        return told

    def test_lawful_terms(self):
        for context, kind, term in LAWFUL:
            self.assert_as_by_names(context, term)

    def test_terms_that_are_changed_somewhere(self):
        chance = random.Random(63)
        seen = {}
        for context, kind, term in LAWFUL:
            for count in range(4):
                other = changed(chance, term)
                if other != Great:
                    told = self.assert_as_by_names(context, other)
                    seen[told if isinstance(told, type) else "kind"] = True
        self.assertGreater(len(seen), 5)

    def test_kinds_that_are_changed_somewhere(self):
        chance = random.Random(64)
        for context, kind, term in LAWFUL:
            other = changed(chance, kind)
            told = outcome(let_by, context, other, FUEL, SOUND)
            self.assertEqual(told, outcome(let_by_names, context, other, FUEL, SOUND))

    def test_terms_of_all_sorts(self):
        context = [NAT, ("all", NAT, NAT), ("same", NAT, ("var", 0), ("zero",)), NAT]
        for term in many_terms(600, 65, depth=4):
            self.assert_as_by_names(context, term)
        for kind in many_kinds(200, 66, depth=4):
            told = outcome(let_by, context, kind, FUEL, SOUND)
            self.assertEqual(told, outcome(let_by_names, context, kind, FUEL, SOUND))


class TrueTest(unittest.TestCase):
    def test_what_is_of_a_true_context_is_of_a_true_kind(self):
        chance = random.Random(67)
        count = 0
        for context, kind, term in LAWFUL:
            if not all(is_true(each) for each in context):
                continue
            for thing in [term] + [changed(chance, term) for times in range(3)]:
                told = Great if thing == Great else outcome(kind_of, context, thing, FUEL, SOUND)
                if not isinstance(told, type):
                    self.assertTrue(is_true(told), (context, thing))
                    count += 1
        self.assertGreater(count, 200)

    def test_without_kinds_no_term_of_none_is_let_by(self):
        chance = random.Random(68)
        terms = [term for context, kind, term in LAWFUL] + many_terms(500, 69, depth=4, top=2)
        for term in terms + [changed(chance, term) for term in terms]:
            if term != Great:
                self.assertNotEqual(outcome(kind_of, [], term, FUEL, SOUND), ("none",), term)

    def test_a_step_leaves_it_as_it_is(self):
        for context, kind, term in LAWFUL:
            self.assertEqual(is_true(normal(kind, FUEL, SOUND)[0]), is_true(kind))


if __name__ == "__main__":
    unittest.main()
