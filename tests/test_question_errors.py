"""The errors of stemsteps.comparing, alone and beside others."""

import unittest

from stemsteps import comparing
from stemsteps.comparing import changed, done, needless, settled
from stemsteps.counting import count
from stemsteps.errors import Endless, InvalidNumber, InvalidStemmer, TooLarge, UnlikeLetters
from stemsteps.rules import Rule, Step
from stemsteps.stemmers import Stemmer
from tests import brute
from tests.samples import ALPHABET, porter, porter_steps
from tests.things import ErrorTests, alike, error_of, odd_things

OF_TWO = {"alike": "alike", "exchanged": "twice", "finer": "finer", "changed": None}
SMALL = Stemmer("abc", "a", [Step([Rule("c", ""), Rule("b", "")]), Step([]), Step([Rule("a", "")])])


def of_two():
    return [getattr(comparing, name) for name in OF_TWO]


class WrongStemmers(unittest.TestCase, ErrorTests):
    def test_no_stemmer(self):
        for thing in odd_things() + [Stemmer]:
            if not isinstance(thing, Stemmer):
                for call in of_two():
                    self.assert_error(InvalidStemmer, "thing", thing, call, thing, SMALL)
                    self.assert_error(InvalidStemmer, "thing", thing, call, SMALL, thing)
                    self.assert_error(InvalidStemmer, "thing", thing, call, thing, "other")
                    self.assert_error(InvalidStemmer, "thing", thing, call, other="other", one=thing)
                    self.assert_error(InvalidStemmer, "thing", thing, call, porter(), thing)
                self.assert_error(InvalidStemmer, "thing", thing, settled, thing)
                for call in (done, needless):
                    self.assert_error(InvalidStemmer, "thing", thing, call, thing, "step", "rule")
                    self.assert_error(InvalidStemmer, "thing", thing, call, rule=0, step=0, stemmer=thing)

    def test_unlike_letters(self):
        for letters, vowels in (("acb", "a"), ("ab", "a"), ("abcd", "a"), ("abc", ""), ("abc", "b"), ("abc", "ab")):
            other = Stemmer(letters, vowels, [])
            for call in of_two():
                for pair in ((SMALL, other), (other, SMALL)):
                    error = error_of(call, *pair)
                    self.assertIs(type(error), UnlikeLetters)
                    self.assertEqual(vars(error), {})

    def test_unlike_letters_ahead_of_too_large(self):
        other = Stemmer(ALPHABET[::-1], "aeiou", porter_steps())
        for call in of_two():
            self.assertIs(type(error_of(call, porter(), other)), UnlikeLetters)

    def test_vowels_in_another_order_are_like_ones(self):
        for call in of_two():
            self.assertIn(call(Stemmer("abc", "ab", []), Stemmer("abc", "ba", [])), (None, []))


class WrongNumbers(unittest.TestCase, ErrorTests):
    def test_numbers_of_no_step(self):
        for thing in odd_things() + [3, -1, -3, True, False, "0", [0], (0,)]:
            if type(thing) is not int or not 0 <= thing < 3:
                for call in (done, needless):
                    self.assert_error(InvalidNumber, "thing", thing, call, SMALL, thing, 0)
                    self.assert_error(InvalidNumber, "thing", thing, call, SMALL, thing, "rule")

    def test_numbers_of_no_rule(self):
        for thing in odd_things() + [2, 3, -1, -2, True, False, "0", [0], (0,)]:
            if type(thing) is not int or not 0 <= thing < 2:
                for call in (done, needless):
                    self.assert_error(InvalidNumber, "thing", thing, call, SMALL, 0, thing)
        for call in (done, needless):
            self.assert_error(InvalidNumber, "thing", 0, call, SMALL, 1, 0)
            self.assert_error(InvalidNumber, "thing", 1, call, SMALL, 2, 1)
            self.assert_error(InvalidNumber, "thing", 0, call, Stemmer("abc", "a", []), 0, 0)

    def test_ahead_of_too_large(self):
        for call in (done, needless):
            self.assert_error(InvalidNumber, "thing", 4, call, porter(), 4, 0)
            self.assert_error(InvalidNumber, "thing", True, call, porter(), 0, True)
            self.assert_error(InvalidNumber, "thing", 3, call, porter(), 2 - 1, 3)


class TooLargeCounts(unittest.TestCase, ErrorTests):
    def check_all(self, one, other, question_count):
        """Each question of two stemmers, and each of one, raises the error just if its count is too great."""
        for name, question in OF_TWO.items():
            many = brute.count_of_changed(one, other) if question is None else question_count(one, other, question)
            self.check(many, getattr(comparing, name), one, other)
        self.check(question_count(one, one, "twice"), settled, one)
        for call in (done, needless):
            self.check(question_count(one, one, "alike"), call, one, 0, 0)

    def check(self, many, call, *given):
        error = error_of(call, *given)
        if many > 30000:
            self.assertIs(type(error), TooLarge, (call, many))
            self.assertTrue(alike(error.count, many))
        else:
            self.assertIn(type(error), (type(None), Endless), (call, many))

    def test_a_great_stemmer(self):
        less = porter().without(0, 0)
        for pair in ((porter(), porter()), (porter(), less), (less, porter())):
            self.check_all(*pair, brute.count)

    def test_about_the_greatest_count(self):
        for many, least, wanted in (
            (3, 8, 29523), (13, 3, 30940), (2, 13, 32766), (12, 3, 22620), (26, 2, 18278), (4, 6, 21844), (8, 4, 37448),
        ):
            letters = ALPHABET[:many]
            rule = Rule(letters[-1], "", conditions=[("least", least), ("not", ("ends", tuple(letters)))])
            stemmer = Stemmer(letters, letters[:1], [Step([rule])])
            self.assertEqual(count(stemmer, stemmer, "alike"), wanted)
            self.check_all(stemmer, stemmer, brute.count)

    def one_letter(self, least, put):
        return Stemmer("a", "", [Step([Rule("a", put, conditions=[("least", least)])])])

    def test_just_at_the_greatest_count(self):
        # One letter makes one word of each length, so each count can be met.
        stemmer = self.one_letter(29999, "")
        self.assertEqual(count(stemmer, stemmer, "alike"), 30000)
        self.assertIsNone(comparing.alike(stemmer, stemmer))
        self.assertEqual(done(stemmer, 0, 0), "a" * 30000)
        stemmer = self.one_letter(29998, "")
        self.assertEqual(count(stemmer, stemmer, "twice"), 30000)
        self.assertEqual(settled(stemmer), "a" * 30000)

    def test_just_above_the_greatest_count(self):
        stemmer = self.one_letter(30000, "")
        for call, given in (
            (comparing.alike, (stemmer, stemmer)), (changed, (stemmer, stemmer)), (done, (stemmer, 0, 0)),
            (needless, (stemmer, 0, 0)),
        ):
            self.assert_error(TooLarge, "count", 30001, call, *given)
        stemmer = self.one_letter(29999, "")
        for call, given in ((settled, (stemmer,)), (comparing.exchanged, (stemmer, stemmer))):
            self.assert_error(TooLarge, "count", 30001, call, *given)
        stemmer = self.one_letter(29998, "a")
        self.assert_error(TooLarge, "count", 30001, comparing.finer, stemmer, stemmer)

    def test_ahead_of_endless(self):
        letters = ALPHABET[:13]
        one = Stemmer(letters, "a", [Step([Rule("b", "", conditions=[("least", 3)])])])
        other = Stemmer(letters, "a", [])
        self.assert_error(TooLarge, "count", 30940, changed, one, other)
        one = Stemmer(letters, "a", [Step([Rule("b", "", conditions=[("least", 2)])])])
        self.assert_error(Endless, "word", "aab", changed, one, other)

    def test_changed_counts_all_letters(self):
        one = Stemmer(ALPHABET, "aeiou", [Step([Rule("s", "", conditions=[("least", 3)])])])
        self.assertEqual(count(one, one, "alike"), 340)
        self.assertIsNone(comparing.alike(one, one))
        self.assert_error(TooLarge, "count", 26 + 26 ** 2 + 26 ** 3 + 26 ** 4, changed, one, one)
