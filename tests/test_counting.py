import unittest

from stemsteps.counting import count, enough
from stemsteps.errors import InvalidQuestion, InvalidStemmer, UnlikeLetters
from stemsteps.rules import Rule, Step
from stemsteps.stemmers import Stemmer
from tests import brute
from tests.pairs import pairs
from tests.samples import porter, random_stemmers
from tests.things import ErrorTests, alike, odd_things

QUESTIONS = ("alike", "twice", "finer")


def stemmer_of(letters, vowels, *rules, exceptions=None):
    return Stemmer(letters, vowels, [Step(list(rules), mode="first")], exceptions=exceptions)


def bare(letters="abc", vowels="a"):
    return Stemmer(letters, vowels, [])


class Enough(unittest.TestCase):
    def told(self, one, other=None):
        return [enough(one, other or one, question) for question in QUESTIONS]

    def test_without_rules(self):
        self.assertTrue(alike(self.told(bare()), [1, 1, 1]))

    def test_endings_and_put_texts(self):
        self.assertEqual(self.told(stemmer_of("abc", "a", Rule("ab", "ccc"), Rule("c", ""))), [3, 5, 8])
        steps = [Step([Rule("ab", "ccc")]), Step([]), Step([Rule("c", "a"), Rule("abc", "")])]
        self.assertEqual(self.told(Stemmer("abc", "a", steps)), [1 + 5, 1 + 10, 1 + 10 + 4])

    def test_the_letters_ahead(self):
        for conditions, exceptions, ahead in [
            ([("vowel",)], {}, 1), ([("least", 1)], {}, 1), ([("least", 4)], {}, 4), ([("not", ("least", 4))], {}, 4),
            ([("runs", 0)], {}, 2), ([("runs", 1)], {}, 4), ([("not", ("runs", 3))], {}, 8),
            ([("double",)], {}, 3), ([("shape", "vov")], {}, 4), ([("ends", ("ab", "c"))], {}, 3),
            ([("runs", 2), ("shape", "vov")], {}, 8), ([("runs", 2), ("shape", "vov"), ("least", 8)], {}, 8),
            ([("runs", 2), ("shape", "vov"), ("least", 9)], {}, 9), ([], {"a": ""}, 2), ([], {"a": "bcbc"}, 5),
            ([("runs", 1)], {"abc": "a"}, 4), ([("runs", 1)], {"abca": "a"}, 5),
        ]:
            stemmer = stemmer_of("abc", "a", Rule("c", "bb", conditions=conditions), exceptions=exceptions)
            self.assertEqual(self.told(stemmer), [ahead + 1, ahead + 2, ahead + 4], (conditions, exceptions))

    def test_the_greater_one_of_each_number(self):
        one = stemmer_of("abc", "a", Rule("abc", "", conditions=[("runs", 2)]))
        other = stemmer_of("abc", "a", Rule("c", "bb", conditions=[("shape", "vov"), ("least", 5)]))
        self.assertEqual(self.told(one), [6 + 3, 6 + 6, 6 + 6])
        self.assertEqual(self.told(other), [5 + 1, 5 + 2, 5 + 4])
        for pair in ((one, other), (other, one)):
            self.assertEqual(self.told(*pair), [8 + 3, 8 + 6, 8 + 8])

    def test_the_same_as_told_in_another_way(self):
        for one, other in pairs(200, 1):
            self.assertEqual(self.told(one, other), [brute.enough(one, other, question) for question in QUESTIONS])
        for one, other in zip(random_stemmers(60), random_stemmers(70)):
            self.assertEqual(self.told(one, other), [brute.enough(one, other, question) for question in QUESTIONS])


class Count(unittest.TestCase):
    def test_letters_that_no_text_names(self):
        for letters, vowels, many in [
            ("a", "", 1), ("a", "a", 1), ("ab", "a", 2), ("ab", "", 2), ("ab", "ab", 1), ("abcdefgh", "", 2),
            ("abcdefgh", "abcdefgh", 1), ("abcdefgh", "aeh", 3), ("abcdefgh", "bcdefgh", 2),
            ("abcdefghijklmnopqrstuvwxyz", "aeiou", 3),
        ]:
            self.assertTrue(alike(count(bare(letters, vowels), bare(letters, vowels), "alike"), many), letters)

    def test_letters_that_stand_in_each_kind_of_text(self):
        letters, vowels = "abcdefghij", "ae"
        for rules, exceptions, many in [
            ([Rule("b", "")], {}, 4), ([Rule("a", "")], {}, 4), ([Rule("a", "e")], {}, 4), ([Rule("ae", "bc")], {}, 6),
            ([Rule("b", "b", conditions=[("ends", ("cde", "fg"))])], {}, 1 + 5 + 1 + 2),
            ([Rule("b", "b", conditions=[("not", ("ends", ("hij", "")))])], {}, 4 + 1 + 2),
            ([Rule("b", "b", conditions=[("ends", ()), ("shape", "vo"), ("double",)])], {}, 4),
            ([], {"bc": "d"}, 3 + 3), ([], {"bac": ""}, 3 + 1 + 2), ([], {"b": "cdfghij", "c": "b"}, 8 + 1),
        ]:
            stemmer = stemmer_of(letters, vowels, *rules, exceptions=exceptions)
            for pair in ((stemmer, stemmer), (stemmer, bare(letters, vowels)), (bare(letters, vowels), stemmer)):
                for question in QUESTIONS:
                    most = enough(*pair, question)
                    wanted = sum(many ** length for length in range(1, most + 1))
                    self.assertEqual(count(*pair, question), wanted, (rules, exceptions))

    def test_letters_of_both(self):
        one = stemmer_of("abcdefghij", "ae", Rule("b", "c"))
        other = stemmer_of("abcdefghij", "ae", Rule("c", "d"), exceptions={"e": "f"})
        self.assertEqual(enough(one, other, "alike"), 3)
        self.assertEqual(count(one, other, "alike"), 8 + 8 ** 2 + 8 ** 3)
        self.assertEqual(count(one, one, "alike"), 5 + 5 ** 2)

    def test_no_too_large(self):
        for question, most in (("alike", 16), ("twice", 26), ("finer", 34)):
            # Those named are sienwyktdgalpb, and besides o, c and f.
            wanted = sum(17 ** length for length in range(1, most + 1))
            self.assertEqual(enough(porter(), porter(), question), most)
            self.assertEqual(brute.count(porter(), porter(), question), wanted)
            self.assertEqual(count(porter(), porter(), question), wanted)

    def test_the_same_as_told_in_another_way(self):
        for one, other in pairs(200, 2):
            for question in QUESTIONS:
                self.assertTrue(alike(count(one, other, question), brute.count(one, other, question)))


class WrongArguments(unittest.TestCase, ErrorTests):
    def test_no_stemmer(self):
        for call in (enough, count):
            for thing in odd_things() + [Stemmer]:
                if not isinstance(thing, Stemmer):
                    self.assert_error(InvalidStemmer, "thing", thing, call, thing, bare(), "alike")
                    self.assert_error(InvalidStemmer, "thing", thing, call, bare(), thing, "alike")
                    self.assert_error(InvalidStemmer, "thing", thing, call, thing, "other", "question")
                    self.assert_error(InvalidStemmer, "thing", thing, call, bare("ab"), thing, "question")

    def test_no_question(self):
        for call in (enough, count):
            for thing in odd_things() + ["Alike", "alike ", "settled", "changed", ("alike",), ["twice"]]:
                self.assert_error(InvalidQuestion, "thing", thing, call, bare(), bare(), thing)
                self.assert_error(InvalidQuestion, "thing", thing, call, bare(), bare("ab"), thing)

    def test_unlike_letters(self):
        for call in (enough, count):
            for other in (bare("acb"), bare("ab"), bare("abcd"), bare("abc", ""), bare("abc", "b"), bare("abc", "ab")):
                with self.assertRaises(UnlikeLetters):
                    call(bare(), other, "finer")
                with self.assertRaises(UnlikeLetters):
                    call(other, bare(), "finer")

    def test_vowels_in_another_order_are_like_ones(self):
        self.assertEqual(enough(bare("abc", "ab"), bare("abc", "ba"), "alike"), 1)
        self.assertEqual(count(bare("abc", "ab"), bare("abc", "ba"), "alike"), 2)

    def test_by_name(self):
        one, other = stemmer_of("abc", "a", Rule("c", "bb")), bare()
        self.assertEqual(enough(question="finer", other=other, one=one), 5)
        self.assertEqual(count(one, question="alike", other=other), 12)
        self.assert_error(InvalidStemmer, "thing", 1, count, question=3, other=2, one=1)
