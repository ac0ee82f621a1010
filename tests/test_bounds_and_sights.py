import unittest

from stemsteps.rules import Rule, Step
from stemsteps.stemmers import Stemmer
from tests import plain
from tests.samples import porter, random_stemmers, texts_up_to
from tests.things import alike


def with_conditions(*conditions):
    return Stemmer("abc", "a", [Step([Rule("c", "", conditions=conditions)])])


# Conditions, and the numbers m, k and c that follow from them.
NUMBERS = [
    ([], (0, 0, 0)),
    ([("vowel",)], (0, 0, 0)),
    ([("runs", 0)], (0, 0, 1)),
    ([("runs", 3)], (3, 0, 1)),
    ([("runs", 3), ("runs", 5), ("runs", 4)], (5, 0, 1)),
    ([("ends", ())], (0, 0, 0)),
    ([("ends", ("",))], (0, 0, 0)),
    ([("ends", ("a", "abc", "ab"))], (0, 0, 3)),
    ([("double",)], (0, 0, 2)),
    ([("least", 0)], (0, 0, 0)),
    ([("least", 4)], (0, 4, 0)),
    ([("least", 4), ("least", 7), ("least", 2)], (0, 7, 0)),
    ([("shape", "")], (0, 0, 0)),
    ([("shape", "v")], (0, 0, 1)),
    ([("shape", "vovo")], (0, 0, 4)),
    ([("runs", 2), ("double",), ("least", 5), ("ends", ("b",))], (2, 5, 2)),
    ([("double",), ("ends", ("abc",)), ("shape", "vo"), ("runs", 1)], (1, 0, 3)),
    ([("runs", 10 ** 99), ("least", 10 ** 98)], (10 ** 99, 10 ** 98, 1)),
]


class Bounds(unittest.TestCase):
    def test_each_kind_of_condition(self):
        for conditions, (runs, least, seen) in NUMBERS:
            told = with_conditions(*conditions).bounds()
            self.assertTrue(alike(told, (1, 0, runs, least, 0, seen)), (conditions, told))

    def test_each_kind_within_not(self):
        for conditions, (runs, least, seen) in NUMBERS:
            told = with_conditions(*[("not", condition) for condition in conditions]).bounds()
            self.assertTrue(alike(told, (1, 0, runs, least, 0, seen)), (conditions, told))

    def test_conditions_of_several_rules_and_steps(self):
        steps = [
            Step([Rule("a", "b", conditions=[("runs", 1)]), Rule("b", "", conditions=[("least", 3)])]),
            Step([]),
            Step([
                Rule("a", "", conditions=[("not", ("runs", 2))]), Rule("a", "", conditions=[("shape", "vov")]),
            ], mode="first"),
        ]
        self.assertEqual(Stemmer("abc", "a", steps).bounds(), (2, 1, 2, 3, 0, 3))

    def test_the_longest_endings_and_put_texts_of_the_steps(self):
        steps = [
            Step([Rule("a", "bbbb"), Rule("abc", "c"), Rule("ab", "")]),
            Step([Rule("b", ""), Rule("b", "")], mode="first"),
            Step([]),
            Step([Rule("ccccc", "aa"), Rule("c", "b")]),
        ]
        self.assertEqual(Stemmer("abc", "a", steps).bounds(), (9, 6, 0, 0, 0, 0))

    def test_without_steps_or_rules(self):
        for steps in ([], [Step([])], [Step([]), Step([], mode="first")]):
            self.assertTrue(alike(Stemmer("abc", "a", steps).bounds(), (0, 0, 0, 0, 0, 0)))

    def test_the_longest_exception_or_stem_of_one(self):
        for exceptions, longest in [
            ({}, 0), ({"a": ""}, 1), ({"a": "b", "abc": "a"}, 3), ({"a": "abcab", "abc": "a"}, 5),
            ({"ab": "ba", "c": "abb"}, 3),
        ]:
            self.assertEqual(Stemmer("abc", "a", [], exceptions=exceptions).bounds(), (0, 0, 0, 0, longest, 0))

    def test_a_whole_stemmer(self):
        self.assertEqual(porter().bounds(), (4 + 3 + 2 + 1, 2 + 2 + 3 + 1, 1, 0, 5, 1))

    def test_the_same_as_told_in_another_way(self):
        for stemmer in random_stemmers(200):
            self.assertTrue(alike(stemmer.bounds(), plain.bounds(stemmer)))


class Sights(unittest.TestCase):
    def test_with_no_condition(self):
        for text, sight in {
            "": ("", False, 0, 0), "a": ("", True, 0, 0), "b": ("", False, 0, 0), "abab": ("", True, 0, 0),
        }.items():
            self.assertTrue(alike(with_conditions().sight(text), sight), text)
            self.assertTrue(alike(with_conditions(("vowel",)).sight(text), sight), text)
            self.assertTrue(alike(with_conditions(("not", ("vowel",))).sight(text), sight), text)

    def test_the_last_letters(self):
        three = [("ends", ("a", "abc", "")), ("shape", "vov"), ("not", ("shape", "ooo")), ("not", ("ends", ("bcb",)))]
        for condition in three:
            stemmer = with_conditions(condition)
            for text, last in {"": "", "b": "b", "cb": "cb", "bcb": "bcb", "abcb": "bcb", "bcbccc": "ccc"}.items():
                self.assertTrue(alike(stemmer.sight(text), (last, "a" in text, 0, 0)), text)

    def test_the_last_two_letters_for_double(self):
        for condition in (("double",), ("not", ("double",))):
            for text, last in {"": "", "b": "b", "cb": "cb", "bcb": "cb"}.items():
                self.assertTrue(alike(with_conditions(condition).sight(text), (last, False, 0, 0)), text)

    def test_the_last_letter_and_the_runs(self):
        for condition in (("runs", 2), ("not", ("runs", 2))):
            for text, (last, count) in {
                "": ("", 0), "a": ("a", 0), "ab": ("b", 1), "aba": ("a", 1), "abac": ("c", 2), "ababab": ("b", 2),
                "aabb": ("b", 1),
            }.items():
                self.assertTrue(alike(with_conditions(condition).sight(text), (last, "a" in text, count, 0)), text)
        self.assertTrue(alike(with_conditions(("runs", 0)).sight("abab"), ("b", True, 0, 0)))

    def test_the_number_of_letters(self):
        for condition in (("least", 3), ("not", ("least", 3))):
            for text, count in {"": 0, "b": 1, "bb": 2, "bbb": 3, "bbbb": 3, "b" * 200: 3}.items():
                self.assertTrue(alike(with_conditions(condition).sight(text), ("", False, 0, count)), text)
        self.assertTrue(alike(with_conditions(("least", 0)).sight("bb"), ("", False, 0, 0)))

    def test_all_at_once(self):
        stemmer = with_conditions(("runs", 2), ("least", 5), ("shape", "vovo"))
        self.assertTrue(alike(stemmer.sight("ccabac"), ("abac", True, 2, 5)))
        self.assertTrue(alike(stemmer.sight(word="cba"), ("cba", True, 0, 3)))
        self.assertTrue(alike(stemmer.sight("ab" * 100), ("abab", True, 2, 5)))

    def test_great_numbers(self):
        stemmer = with_conditions(("runs", 10 ** 99), ("least", 10 ** 99))
        self.assertTrue(alike(stemmer.sight("ab" * 100), ("b", True, 100, 200)))

    def test_an_exception_has_the_sight_of_its_letters(self):
        stemmer = Stemmer("abc", "a", [Step([Rule("c", "", conditions=[("least", 2)])])], exceptions={"abc": "b"})
        self.assertTrue(alike(stemmer.sight("abc"), ("", True, 0, 2)))

    def test_the_same_as_told_in_another_way(self):
        texts = texts_up_to("bac", 5)
        for stemmer in random_stemmers(40):
            for text in texts:
                self.assertTrue(alike(stemmer.sight(text), plain.sight(stemmer, text)))


class WhatASightTells(unittest.TestCase):
    def test_texts_of_one_sight_are_gone_on_from_alike(self):
        checked = 0
        for stemmer in random_stemmers(80, letters="ab"):
            ends, _, _, _, longest, _ = stemmer.bounds()
            if ends + longest <= 5:
                checked += self.check_sights(stemmer, ends, longest)
        self.assertGreater(checked, 20)

    def check_sights(self, stemmer, ends, longest):
        ahead = [text for text in texts_up_to("ab", longest + 5) if len(text) > longest]
        behind = [text for text in texts_up_to("ab", ends + 1) if len(text) >= ends]
        told = {}
        for text in ahead:
            for more in behind:
                stem = stemmer.stem(text + more)
                self.assertTrue(stem.startswith(text))
                follows = stem[len(text):]
                self.assertEqual(told.setdefault((stemmer.sight(text), more), follows), follows)
        return 1
