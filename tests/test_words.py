import itertools
import unittest

from stemsteps.counting import words
from stemsteps.errors import InvalidLetters, InvalidNumber
from tests import brute
from tests.samples import ALPHABET
from tests.things import ErrorTests, alike, odd_things


class Words(unittest.TestCase):
    def test_in_order(self):
        self.assertEqual(list(words("ba", 2)), ["b", "a", "bb", "ba", "ab", "aa"])
        self.assertEqual(list(words("a", 3)), ["a", "aa", "aaa"])
        self.assertEqual(list(words("abc", 1)), ["a", "b", "c"])
        self.assertEqual(list(words("abc", 0)), [])

    def test_the_same_as_told_in_another_way(self):
        for letters, most in (("a", 9), ("ab", 6), ("ba", 6), ("cab", 5), ("zyx", 4), (ALPHABET, 2)):
            for number in range(most + 1):
                self.assertTrue(alike(list(words(letters, number)), brute.all_words(letters, number)))

    def test_each_is_made_when_it_is_wanted(self):
        self.assertEqual(list(itertools.islice(words(ALPHABET, 200), 28))[24:], ["y", "z", "aa", "ab"])
        self.assertEqual(next(words("ab", 10 ** 99)), "a")
        told = words(ALPHABET, 10 ** 9)
        self.assertEqual([next(told), next(told)], ["a", "b"])

    def test_it_is_an_iterator(self):
        told = words("ab", 1)
        self.assertIs(iter(told), told)
        self.assertEqual([next(told), next(told), next(told, None), next(told, None)], ["a", "b", None, None])

    def test_two_do_not_disturb_each_other(self):
        one, other = words("ab", 2), words("ab", 2)
        self.assertEqual([next(one), next(one), next(other), next(one), next(other)], ["a", "b", "a", "aa", "b"])

    def test_by_name(self):
        self.assertEqual(list(words(most=1, letters="ba")), ["b", "a"])


class WrongArguments(unittest.TestCase, ErrorTests):
    def test_letters(self):
        for thing in odd_things() + ["aa", "aB", "a ", "abca", "\u00e4"]:
            if thing not in ("a", "b", "ab", "vowel", "not", "longest", "first"):
                self.assert_error(InvalidLetters, "thing", thing, next, words(thing, 1))
                self.assert_error(InvalidLetters, "thing", thing, next, words(thing, "1"))

    def test_most(self):
        for thing in odd_things() + ["1", -5, True, False]:
            if type(thing) is not int or thing < 0:
                self.assert_error(InvalidNumber, "thing", thing, next, words("ab", thing))

    def test_no_error_ahead_of_the_first_word_and_none_behind_it(self):
        for letters, most, kind in (("", 1, InvalidLetters), ("ab", None, InvalidNumber), (None, None, InvalidLetters)):
            told = words(letters, most)
            with self.assertRaises(kind):
                next(told)
            self.assertEqual(list(told), [])
            self.assertIsNone(next(told, None))
