import unittest

from stemsteps.errors import InvalidNumber
from stemsteps.rules import Rule, Step
from stemsteps.stemmers import Stemmer
from tests.samples import porter
from tests.things import ErrorTests, odd_things

FIRST, SECOND, THIRD = Rule("a", "b"), Rule("ba", "c", conditions=[("vowel",)]), Rule("c", "")


def sample():
    steps = [Step([FIRST, SECOND, THIRD]), Step([]), Step([FIRST, FIRST], mode="first"), Step([THIRD])]
    return Stemmer("cba", "ab", steps, exceptions={"ca": "b", "a": ""})


class Without(unittest.TestCase):
    def test_the_stemmer_that_is_returned(self):
        for step, rule, rules in [
            (0, 0, [SECOND, THIRD]), (0, 1, [FIRST, THIRD]), (0, 2, [FIRST, SECOND]), (2, 0, [FIRST]),
            (2, 1, [FIRST]), (3, 0, []),
        ]:
            stemmer = sample()
            steps = list(stemmer.steps)
            steps[step] = Step(rules, mode=steps[step].mode)
            wanted = Stemmer("cba", "ab", steps, exceptions={"ca": "b", "a": ""})
            self.assertTrue(stemmer.without(step, rule) == wanted, (step, rule))
            self.assertIs(type(stemmer.without(step, rule)), Stemmer)

    def test_all_steps_are_kept(self):
        less = sample().without(3, 0)
        self.assertEqual(len(less.steps), 4)
        self.assertEqual(less.steps[3], Step([]))
        self.assertEqual(less.trace("cc"), [(2, "c"), (None, "c"), (None, "c"), (None, "c")])

    def test_letters_vowels_modes_and_exceptions_are_kept(self):
        less = sample().without(2, 1)
        self.assertEqual((less.letters, less.vowels, less.exceptions), ("cba", "ba", {"ca": "b", "a": ""}))
        self.assertEqual([step.mode for step in less.steps], ["longest", "longest", "first", "longest"])
        self.assertEqual(list(less.exceptions), ["ca", "a"])

    def test_the_one_it_was_called_on(self):
        stemmer = sample()
        less = stemmer.without(0, 0)
        self.assertTrue(stemmer == sample())
        self.assertFalse(less == stemmer)
        self.assertEqual(stemmer.trace("cca"), sample().trace("cca"))
        self.assertEqual(stemmer.trace("cca")[0], (0, "ccb"))
        self.assertEqual(less.trace("cca")[0], (None, "cca"))

    def test_stems_traces_and_bounds_go_by_the_rules_left(self):
        stemmer = porter()
        less = stemmer.without(1, 0)
        self.assertEqual([stemmer.stem("agreed"), less.stem("agreed")], ["agree", "agre"])
        self.assertEqual(less.trace("motoring")[1], (1, "motor"))
        self.assertEqual(less.bounds(), (10, 6, 0, 0, 5, 1))
        self.assertEqual(less.without(0, 0).without(0, 0).without(0, 0).without(0, 0).bounds(), (6, 4, 0, 0, 5, 1))

    def test_by_name(self):
        self.assertTrue(sample().without(rule=1, step=0) == sample().without(0, 1))
        self.assertTrue(sample().without(0, rule=2) == sample().without(0, 2))


class WrongNumbers(unittest.TestCase, ErrorTests):
    def test_numbers_of_no_step(self):
        for thing in odd_things() + [4, 5, -1, -4, True, False, "0", None, [0]]:
            if type(thing) is not int or not 0 <= thing < 4:
                self.assert_error(InvalidNumber, "thing", thing, sample().without, thing, 0)

    def test_numbers_of_no_rule(self):
        for thing in odd_things() + [3, 4, -1, -3, True, False, "0", None, [0]]:
            if type(thing) is not int or not 0 <= thing < 3:
                self.assert_error(InvalidNumber, "thing", thing, sample().without, 0, thing)

    def test_rules_are_those_of_the_step(self):
        self.assert_error(InvalidNumber, "thing", 0, sample().without, 1, 0)
        self.assert_error(InvalidNumber, "thing", 2, sample().without, 2, 2)
        self.assert_error(InvalidNumber, "thing", 1, sample().without, 3, 1)
        self.assert_error(InvalidNumber, "thing", 0, Stemmer("abc", "a", []).without, 0, 0)

    def test_both_wrong(self):
        self.assert_error(InvalidNumber, "thing", "x", sample().without, "x", "y")
        self.assert_error(InvalidNumber, "thing", "x", sample().without, rule="y", step="x")
        self.assert_error(InvalidNumber, "thing", 9, sample().without, 9, True)
        self.assert_error(InvalidNumber, "thing", True, sample().without, True, False)
