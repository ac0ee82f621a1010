import time
import unittest

from stemsteps.rules import Rule, Step
from stemsteps.stemmers import Stemmer
from tests.samples import ALPHABET

SECONDS = 3


def great_rule(number, extent):
    """A rule whose conditions all have to be looked at, and of which the last one fails."""
    texts = tuple([letter * extent for letter in ALPHABET[:12]])
    conditions = [("not", ("ends", texts))] * 6 + [("not", ("runs", 10 ** 99)), ("least", 10 ** 99)]
    return Rule("z" * (number % extent + 1), "y" * extent, conditions=conditions)


def great_stemmer(steps, rules, extent):
    step = Step([great_rule(number, extent) for number in range(rules)], mode="first")
    exceptions = {letter * 12: letter * 12 for letter in ALPHABET[:12]}
    return Stemmer(ALPHABET, "aeiou", [step] * steps, exceptions=exceptions)


class Limits(unittest.TestCase):
    def timed(self, call, *given):
        begin = time.monotonic()
        told = call(*given)
        self.assertLess(time.monotonic() - begin, SECONDS)
        return told

    def test_each_call_at_the_limits_is_quick(self):
        stemmer = self.timed(great_stemmer, 10, 24, 8)
        word = "ab" * 92 + "z" * 16
        self.assertEqual(self.timed(stemmer.stem, word), word)
        self.assertEqual(self.timed(stemmer.trace, word), [(None, word)] * 10)
        self.assertEqual(self.timed(stemmer.sight, word), ("z" * 8, True, 92, 200))
        self.assertEqual(self.timed(stemmer.bounds), (80, 80, 10 ** 99, 10 ** 99, 12, 8))
        self.assertEqual(len(self.timed(stemmer.without, 9, 23).steps[9].rules), 23)
        self.assertTrue(self.timed(lambda: stemmer == great_stemmer(10, 24, 8)))

    def test_no_error_beyond_the_limits(self):
        stemmer = self.timed(great_stemmer, 12, 30, 10)
        word = "ab" * 200 + "z" * 20
        self.assertEqual(self.timed(stemmer.stem, word), word)
        self.assertEqual(self.timed(stemmer.trace, word), [(None, word)] * 12)
        self.assertEqual(self.timed(stemmer.bounds)[:2], (120, 120))

    def test_many_exceptions_conditions_and_texts_raise_no_error(self):
        exceptions = {"a" * number: "b" * number for number in range(1, 40)}
        texts = tuple(["ab" * number for number in range(30)])
        rule = Rule("a", "b", conditions=[("ends", texts), ("shape", "vo" * 10), ("runs", 9), ("least", 15)] * 5)
        stemmer = Stemmer("ab", "a", [Step([rule])], exceptions=exceptions)
        self.assertEqual(stemmer.stem("ab" * 10 + "a"), "ab" * 10 + "b")
        self.assertEqual(stemmer.stem("ab" * 6 + "a"), "ab" * 6 + "a")
        self.assertEqual(stemmer.bounds(), (1, 1, 9, 15, 39, 58))

    def test_a_word_grows_beyond_what_may_be_passed(self):
        step = Step([Rule("a", "b" * 7 + "a")])
        self.assertEqual(Stemmer("ab", "a", [step] * 10).stem("a" * 200), "a" * 199 + "b" * 70 + "a")

    def test_what_was_returned_may_be_passed_again(self):
        stemmer = Stemmer("ab", "a", [Step([Rule("a", "b" * 7 + "a")])] * 10)
        once = stemmer.stem("a" * 200)
        self.assertEqual(stemmer.stem(once), "a" * 199 + "b" * 140 + "a")
        self.assertEqual(len(stemmer.trace(once)), 10)
