import unittest

from stemsteps.errors import InvalidConditions, InvalidText, SameEnding
from stemsteps.rules import Rule, Step
from tests.things import ErrorTests, not_lists, not_texts, odd_things

ALPHABET = "abcdefghijklmnopqrstuvwxyz"
CONDITIONS = [("vowel",), ("runs", 1), ("ends", ("s", "\u00e4?")), ("double",), ("not", ("least", 2)), ("shape", "ovo")]
NO_LETTERS = [
    "A", "Z", "1", " ", "\n", "-", "_", "~", "`", "{", "\u00e4", "\u0430", "\uff41", "\u0131", "ab c", "abC", "ab\n",
]


class RuleProperties(unittest.TestCase):
    def test_ordinary(self):
        rule = Rule("ational", "ate", conditions=[("runs", 1)])
        self.assertEqual(rule.ending, "ational")
        self.assertEqual(rule.put, "ate")
        self.assertEqual(rule.conditions, (("runs", 1),))

    def test_without_conditions(self):
        self.assertEqual(Rule("s", "").conditions, ())
        self.assertIs(type(Rule("s", "").conditions), tuple)
        self.assertIs(type(Rule("s", "", conditions=[]).conditions), tuple)

    def test_the_empty_put_text(self):
        self.assertEqual(Rule("s", "").put, "")

    def test_all_letters(self):
        rule = Rule(ALPHABET, ALPHABET[::-1])
        self.assertEqual((rule.ending, rule.put), (ALPHABET, ALPHABET[::-1]))
        for letter in ALPHABET:
            self.assertEqual(Rule(letter, letter).ending, letter)

    def test_conditions_keep_their_order_and_repeat(self):
        given = CONDITIONS + CONDITIONS[::-1]
        self.assertEqual(Rule("s", "", conditions=given).conditions, tuple(given))

    def test_a_tuple_of_conditions_is_taken_alike(self):
        self.assertEqual(Rule("s", "", conditions=tuple(CONDITIONS)).conditions, tuple(CONDITIONS))
        self.assertEqual(Rule("s", "", conditions=tuple(CONDITIONS)), Rule("s", "", conditions=CONDITIONS))

    def test_the_list_changes_afterwards(self):
        given = list(CONDITIONS)
        rule = Rule("s", "", conditions=given)
        given.append(("vowel",))
        given[0] = ("double",)
        self.assertEqual(rule.conditions, tuple(CONDITIONS))

    def test_arguments_are_not_changed(self):
        given = list(CONDITIONS)
        Rule("s", "", conditions=given)
        self.assertEqual(given, CONDITIONS)

    def test_by_name(self):
        rule = Rule(conditions=[("vowel",)], put="y", ending="x")
        self.assertEqual((rule.ending, rule.put, rule.conditions), ("x", "y", (("vowel",),)))

    def test_the_properties_cannot_be_assigned(self):
        rule = Rule("x", "y", conditions=[("vowel",)])
        for name in ("ending", "put", "conditions"):
            with self.assertRaises(AttributeError):
                setattr(rule, name, "z")
        self.assertTrue(rule == Rule("x", "y", conditions=[("vowel",)]))
        self.assertEqual((rule.ending, rule.put, rule.conditions), ("x", "y", (("vowel",),)))

    def test_the_ending_of_an_error_can_be_anything_beside_it(self):
        error = SameEnding(["a"])
        error.ending = None
        self.assertIsNone(error.ending)
        self.assertEqual(Rule("a", "").ending, "a")

    def test_conditions_only_by_name(self):
        with self.assertRaises(TypeError):
            Rule("x", "y", [("vowel",)])


class RuleErrors(unittest.TestCase, ErrorTests):
    def test_an_ending_that_is_no_text_of_letters(self):
        for thing in not_texts() + NO_LETTERS + [""]:
            self.assert_error(InvalidText, "thing", thing, Rule, thing, "a")

    def test_a_put_text_that_is_no_text_of_letters(self):
        for thing in not_texts() + NO_LETTERS:
            self.assert_error(InvalidText, "thing", thing, Rule, "a", thing)

    def test_conditions_that_are_no_list(self):
        for thing in not_lists():
            self.assert_error(InvalidConditions, "place", None, Rule, "a", "b", conditions=thing)

    def test_the_first_wrong_place(self):
        for thing in odd_things():
            if thing not in [("vowel",), ("not", ("vowel",))]:
                for place in range(3):
                    given = CONDITIONS[:place] + [thing, ("double",), thing, None]
                    self.assert_error(InvalidConditions, "place", place, Rule, "a", "b", conditions=given)
                    self.assert_error(InvalidConditions, "place", place, Rule, "a", "b", conditions=tuple(given))

    def test_a_bare_condition_is_a_list_of_what_stands_in_it(self):
        self.assert_error(InvalidConditions, "place", 0, Rule, "a", "b", conditions=("vowel",))
        self.assert_error(InvalidConditions, "place", 0, Rule, "a", "b", conditions=("not", ("vowel",)))

    def test_near_conditions(self):
        for thing in (("runs", True), ("least", -1), ["vowel"], ("not", ("not", ("vowel",))), ("vowel", 1), ("ends",)):
            given = [("vowel",), thing]
            self.assert_error(InvalidConditions, "place", 1, Rule, "a", "b", conditions=given)

    def test_several_wrong_arguments(self):
        self.assert_error(InvalidText, "thing", 1, Rule, 1, 2, conditions=3)
        self.assert_error(InvalidText, "thing", 1, Rule, conditions=3, put=2, ending=1)
        self.assert_error(InvalidText, "thing", "", Rule, "", "A")
        self.assert_error(InvalidText, "thing", 2, Rule, "a", 2, conditions=3)
        self.assert_error(InvalidText, "thing", "B", Rule, "a", "B", conditions=[3])


class RuleEquality(unittest.TestCase):
    def test_like_ones(self):
        self.assertTrue(Rule("a", "b") == Rule("a", "b"))
        self.assertFalse(Rule("a", "b") != Rule("a", "b"))
        self.assertTrue(Rule("a", "b", conditions=CONDITIONS) == Rule("a", "b", conditions=list(CONDITIONS)))

    def test_unlike_ones(self):
        rule = Rule("a", "b", conditions=[("vowel",), ("double",)])
        unlike = [
            Rule("c", "b", conditions=[("vowel",), ("double",)]),
            Rule("a", "c", conditions=[("vowel",), ("double",)]),
            Rule("a", "b", conditions=[("double",), ("vowel",)]),
            Rule("a", "b", conditions=[("vowel",)]),
            Rule("b", "a", conditions=[("vowel",), ("double",)]),
            Rule("a", "b"),
        ]
        for other in unlike:
            self.assertFalse(rule == other)
            self.assertTrue(rule != other)

    def test_other_things(self):
        rule = Rule("a", "b")
        for thing in odd_things() + [("a", "b", ()), Step([rule]), [rule], Rule]:
            self.assertFalse(rule == thing)
            self.assertFalse(thing == rule)
            self.assertTrue(rule != thing)
