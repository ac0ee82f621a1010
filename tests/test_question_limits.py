"""That each call of the questions at the limits of point 3 is quick."""

import itertools
import time
import unittest

from stemsteps.choosing import fewest
from stemsteps.comparing import alike, changed, done, exchanged, finer, needless, settled
from stemsteps.counting import count, enough, words
from stemsteps.groups import carry, words_of
from stemsteps.rules import Rule, Step
from stemsteps.stemmers import Stemmer
from tests.samples import ALPHABET
from tests.things import error_of

# Each takes two or three seconds at most here; other machines may be slower.
SECONDS = 20


def great_step(endings, put, conditions, many=24):
    """A step of rules of which all that stand at a word are asked for all of their conditions."""
    endings = [endings[number % len(endings)] for number in range(many)]
    return Step([Rule(ending, put, conditions=conditions) for ending in endings], mode="first")


class Limits(unittest.TestCase):
    def timed(self, call, *given, **named):
        begin = time.monotonic()
        told = call(*given, **named)
        self.assertLess(time.monotonic() - begin, SECONDS, call)
        return told

    def all_of(self, stemmer, wanted):
        """Each question that the stemmer is not too large for."""
        for question, calls in (("alike", [alike, changed]), ("twice", [exchanged]), ("finer", [finer])):
            if self.timed(count, stemmer, stemmer, question) <= 30000:
                for call in calls:
                    self.assertIn(self.timed(call, stemmer, stemmer), (None, []))
        last = len(stemmer.steps[-1].rules) - 1
        self.assertEqual(self.timed(done, stemmer, len(stemmer.steps) - 1, last), None)
        self.assertEqual(self.timed(needless, stemmer, len(stemmer.steps) - 1, last), None)
        if count(stemmer, stemmer, "twice") <= 30000:
            self.assertIsNone(self.timed(settled, stemmer))
        self.assertEqual([count(stemmer, stemmer, question) for question in ("alike", "twice", "finer")], wanted)

    def test_many_steps(self):
        never = [("vowel",)] * 6 + [("least", 1), ("not", ("vowel",))]
        stemmer = Stemmer("ab", "a", [great_step(["a", "b"], "", never)] * 10)
        self.all_of(stemmer, [2 ** 12 - 2, 2 ** 22 - 2, 2 ** 22 - 2])
        stemmer = Stemmer("ab", "a", [great_step(["a", "b"], "b", never)] * 4)
        self.all_of(stemmer, [2 ** 6 - 2, 2 ** 10 - 2, 2 ** 14 - 2])

    def test_many_conditions(self):
        texts = tuple(["".join(text) for text in itertools.islice(itertools.product("bc", repeat=6), 12)])
        never = [("not", ("ends", texts))] * 7 + [("not", ("ends", ("",)))]
        stemmer = Stemmer("abc", "a", [great_step(["a"], "", never)])
        self.all_of(stemmer, [9840, 29523, 29523])
        never = [("not", ("runs", 3)), ("runs", 0), ("vowel",)] + [("least", 4)] * 4 + [("not", ("least", 4))]
        stemmer = Stemmer("abc", "a", [great_step(["a", "b", "c"], "", never)])
        self.all_of(stemmer, [29523, 88572, 88572])

    def test_many_letters(self):
        never = [("least", number % 2) for number in range(7)] + [("not", ("least", 0))]
        stemmer = Stemmer(ALPHABET, "aeiou", [great_step(list(ALPHABET[step:]), "", never) for step in (0, 2)])
        self.all_of(stemmer, [18278, 12356630, 12356630])

    def test_exceptions(self):
        exceptions = {"a" * (number + 1): "" for number in range(9)}
        exceptions.update({"b" * (number + 1): "b" for number in range(3)})
        stemmer = Stemmer("ab", "a", [great_step(["b"], "", [("not", ("least", 0))])], exceptions=exceptions)
        self.all_of(stemmer, [2 ** 12 - 2, 2 ** 13 - 2, 2 ** 13 - 2])

    def test_groups(self):
        stem = "ab" * 92 + "z" * 16
        conditions = [("runs", number) for number in range(7)] + [("ends", ("z",) * 12)]
        steps = [great_step(list(ALPHABET), "", conditions[:7])] * 2 + [great_step(["y", "x"], "z", conditions, 2)]
        stemmer = Stemmer(ALPHABET, "aeiou", steps)
        group = self.timed(words_of, stemmer, stem)
        # The last step makes z of x and y; each other one takes one of the letters from a to x.
        self.assertEqual(len(group), 2 * (1 + 24) + (2 * 24 + 24) * 24)
        self.assertEqual(self.timed(carry, stemmer, stemmer, stem), stem)
        one_rule = Stemmer("abc", "a", [Step([Rule("abcabcab", "", conditions=[("runs", 8)] * 8)])] * 10)
        self.assertEqual(len(self.timed(words_of, one_rule, "ab" * 96 + "c" * 8)), 11)
        conditions = [("runs", number + 1) for number in range(8)]
        many = Stemmer(ALPHABET, "aeiou", [Step([Rule(letter, "", conditions=conditions)]) for letter in ALPHABET[:10]])
        # The letters of some of the steps may stand behind the stem, that of the earliest one as the last.
        self.assertEqual(len(self.timed(words_of, many, stem)), 1024)
        self.assertEqual(self.timed(carry, many, many, stem), stem)
        error = self.timed(error_of, carry, many, stemmer, stem)
        self.assertEqual((error.first_word, error.second_word), (stem, stem + "cba"))

    def test_fewest(self):
        conditions = [("runs", 8)] * 7 + [("least", 8)]
        rules = [Rule("a" * (8 - number), "b" * 8, conditions=conditions) for number in range(8)]
        long_ones = [("ab" * number + "b" * (192 - 2 * number) + "aaaaaaaa") for number in range(41)]
        parted = list(zip(long_ones[:20], long_ones[20:40]))
        for mode in ("longest", "first"):
            self.assertEqual(self.timed(fewest, "ab", "a", rules, [], parted, mode=mode), ())
            never = [(long_ones[number], long_ones[number + 1]) for number in range(20)]
            self.assertIsNone(self.timed(fewest, "ab", "a", rules, never, parted, mode=mode))

    def test_beyond_the_limits(self):
        rules = [Rule("a", "b", conditions=[("least", number)]) for number in range(10)]
        pairs = [("ab" * 150 + "a", "ab" * 150 + "b")] * 30
        self.assertEqual(self.timed(fewest, "ab", "a", rules, pairs, [], mode="first"), (0,))
        steps = [Step([Rule("a" * 10, "b" * 10), Rule("c", "")])] * 12
        stemmer = Stemmer("abc", "a", steps)
        self.assertEqual(self.timed(enough, stemmer, stemmer, "finer"), 361)
        self.assertEqual(self.timed(count, stemmer, stemmer, "alike"), (3 ** 122 - 3) // 2)
        self.assertEqual(self.timed(words_of, stemmer, "ab" * 150), ["ab" * 150 + "c" * number for number in range(13)])

    def test_words(self):
        self.assertEqual(len(self.timed(list, words("abc", 9))), 29523)
        self.assertEqual(self.timed(next, words(ALPHABET, 200)), "a")
