import unittest

from stemsteps.errors import InvalidMode, InvalidRules, SameEnding
from stemsteps.rules import Rule, Step
from tests.things import ErrorTests, not_lists, odd_things

RULES = [Rule("sses", "ss"), Rule("ies", "i"), Rule("ss", "ss"), Rule("s", "", conditions=[("vowel",)])]


class StepProperties(unittest.TestCase):
    def test_ordinary(self):
        step = Step(RULES)
        self.assertEqual(step.rules, tuple(RULES))
        self.assertIs(type(step.rules), tuple)
        self.assertEqual(step.mode, "longest")

    def test_both_modes(self):
        self.assertEqual(Step(RULES, mode="longest").mode, "longest")
        self.assertEqual(Step(RULES, mode="first").mode, "first")
        self.assertEqual(Step(RULES, mode="first").rules, tuple(RULES))

    def test_without_rules(self):
        for mode in ("longest", "first"):
            self.assertEqual(Step([], mode=mode).rules, ())
            self.assertEqual(Step((), mode=mode).rules, ())

    def test_a_tuple_is_taken_alike(self):
        self.assertEqual(Step(tuple(RULES)).rules, tuple(RULES))
        self.assertEqual(Step(tuple(RULES)), Step(RULES))

    def test_the_list_changes_afterwards(self):
        given = list(RULES)
        step = Step(given)
        given.pop()
        given[0] = Rule("x", "y")
        self.assertEqual(step.rules, tuple(RULES))

    def test_arguments_are_not_changed(self):
        given = list(RULES)
        Step(given, mode="first")
        self.assertEqual(given, RULES)

    def test_by_name(self):
        step = Step(mode="first", rules=RULES)
        self.assertEqual((step.rules, step.mode), (tuple(RULES), "first"))

    def test_the_mode_only_by_name(self):
        with self.assertRaises(TypeError):
            Step(RULES, "first")


class StepErrors(unittest.TestCase, ErrorTests):
    def test_rules_that_are_no_list(self):
        for thing in not_lists():
            self.assert_error(InvalidRules, "place", None, Step, thing)
            self.assert_error(InvalidRules, "place", None, Step, thing, mode="first")

    def test_the_first_wrong_place(self):
        for thing in odd_things() + [Rule, ("s", "", ())]:
            if not isinstance(thing, Rule):
                for place in range(3):
                    given = RULES[:place] + [thing, Rule("x", "y"), None, thing]
                    self.assert_error(InvalidRules, "place", place, Step, given)
                    self.assert_error(InvalidRules, "place", place, Step, tuple(given), mode="first")

    def test_a_mode_that_is_none(self):
        for thing in odd_things() + ["Longest", "FIRST", "first ", "shortest", ("longest",), ["first"]]:
            if thing not in ("longest", "first"):
                self.assert_error(InvalidMode, "thing", thing, Step, RULES, mode=thing)
                self.assert_error(InvalidMode, "thing", thing, Step, [], mode=thing)

    def test_the_same_ending_in_the_mode_longest(self):
        rules = [Rule("a", "b"), Rule("a", "c")]
        self.assert_error(SameEnding, "ending", "a", Step, rules)
        self.assert_error(SameEnding, "ending", "a", Step, tuple(rules), mode="longest")
        self.assert_error(SameEnding, "ending", "a", Step, [rules[0], rules[0]])

    def test_the_ending_of_the_first_rule_that_repeats_one(self):
        rules = [Rule(ending, "") for ending in ("x", "a", "b", "b", "a", "x")]
        self.assert_error(SameEnding, "ending", "b", Step, rules)
        rules = [Rule(ending, "") for ending in ("b", "a", "ab", "a", "b", "b")]
        self.assert_error(SameEnding, "ending", "a", Step, rules)

    def test_no_such_error_in_the_mode_first(self):
        rules = [Rule("a", "b"), Rule("a", "c"), Rule("a", "b")]
        self.assertEqual(Step(rules, mode="first").rules, tuple(rules))

    def test_endings_of_which_one_ends_in_the_other(self):
        rules = [Rule("a", "a"), Rule("aa", "a"), Rule("ba", "a"), Rule("ab", "a"), Rule("b", "a")]
        self.assertEqual(Step(rules).rules, tuple(rules))

    def test_several_wrong_arguments(self):
        self.assert_error(InvalidRules, "place", None, Step, None, mode="last")
        self.assert_error(InvalidRules, "place", None, Step, mode="last", rules=None)
        self.assert_error(InvalidRules, "place", 2, Step, [Rule("a", ""), Rule("a", ""), 1], mode="last")
        self.assert_error(InvalidRules, "place", 2, Step, [Rule("a", ""), Rule("a", ""), 1])
        self.assert_error(InvalidMode, "thing", "last", Step, [Rule("a", ""), Rule("a", "")], mode="last")


class StepEquality(unittest.TestCase):
    def test_like_ones(self):
        self.assertTrue(Step(RULES) == Step(list(RULES), mode="longest"))
        self.assertFalse(Step(RULES) != Step(list(RULES)))
        again = [Rule(rule.ending, rule.put, conditions=rule.conditions) for rule in RULES]
        self.assertTrue(Step(RULES, mode="first") == Step(again, mode="first"))
        self.assertTrue(Step([]) == Step([]))

    def test_unlike_ones(self):
        unlike = [
            Step(RULES, mode="first"), Step(RULES[:-1]), Step(RULES[::-1]), Step([]), Step(RULES + [Rule("t", "")]),
            Step(RULES[:-1] + [Rule("s", "")]),
        ]
        for other in unlike:
            self.assertFalse(Step(RULES) == other)
            self.assertTrue(Step(RULES) != other)
        self.assertFalse(Step([]) == Step([], mode="first"))

    def test_other_things(self):
        step = Step(RULES)
        for thing in odd_things() + [tuple(RULES), RULES, RULES[0], [step], Step]:
            self.assertFalse(step == thing)
            self.assertFalse(thing == step)
            self.assertTrue(step != thing)
