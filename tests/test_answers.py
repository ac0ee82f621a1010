"""The answers about all words, compared with those that going through all words of all the letters gives."""

import collections
import unittest

from stemsteps import comparing
from stemsteps.errors import Endless, TooLarge
from stemsteps.walkers import Walker
from tests import brute
from tests.pairs import pairs
from tests.samples import porter, random_stemmers, texts_up_to
from tests.things import alike, error_of

# More words than these are not gone through here, so that the tests are quick.
MOST = 4000
LIMIT = 30000


def number_of_words(letters, most):
    return sum(len(letters) ** length for length in range(1, most + 1))


def words_that_decide(one, other, question, more=0):
    """All words of all the letters that decide, and longer ones where these are few; None if they are too many."""
    most = brute.enough(one, other, question)
    if number_of_words(one.letters, most) > MOST:
        return None
    while more > 0 and number_of_words(one.letters, most + 1) <= MOST:
        most, more = most + 1, more - 1
    return brute.all_words(one.letters, most)


class Answers(unittest.TestCase):
    def setUp(self):
        self.told = collections.Counter()

    def compare(self, question, name, *given):
        """The function of a name tells the same as its namesake that goes through all words."""
        one, other = given[0], given[1] if len(given) == 2 else given[0]
        if brute.count(one, other, question) > LIMIT:
            error = error_of(getattr(comparing, name), *given)
            self.assertIs(type(error), TooLarge)
            self.assertEqual(error.count, brute.count(one, other, question))
            self.told["large"] += 1
            return
        words = words_that_decide(one, other, question, more=2)
        if words is not None:
            answer = getattr(comparing, name)(*given)
            self.assertTrue(alike(answer, getattr(brute, name)(*given, words)), (name, answer))
            self.told["none" if answer is None else "word"] += 1

    def assert_often(self, **wanted):
        for what, times in wanted.items():
            self.assertGreaterEqual(self.told[what], times, dict(self.told))

    def test_alike(self):
        for one, other in pairs(250, 11):
            self.compare("alike", "alike", one, other)
        self.assert_often(none=60, word=60)

    def test_exchanged(self):
        for one, other in pairs(250, 12):
            self.compare("twice", "exchanged", one, other)
        self.assert_often(none=60, word=30, large=1)

    def test_finer(self):
        for one, other in pairs(250, 13):
            self.compare("finer", "finer", one, other)
        self.assert_often(none=60, word=30, large=1)

    def test_settled(self):
        for one, other in pairs(125, 14):
            self.compare("twice", "settled", one)
            self.compare("twice", "settled", other)
        self.assert_often(none=60, word=60, large=1)

    def test_done_and_needless(self):
        for name in ("done", "needless"):
            self.told.clear()
            for one, _ in pairs(150, 15):
                for step, row in enumerate(one.steps):
                    for rule in range(len(row.rules)):
                        self.compare("alike", name, one, step, rule)
            self.assert_often(none=30, word=60)

    def test_changed(self):
        for one, other in pairs(300, 16):
            many = brute.count_of_changed(one, other)
            words = words_that_decide(one, other, "alike", more=2)
            if many > LIMIT:
                error = error_of(comparing.changed, one, other)
                self.assertEqual((type(error), error.count), (TooLarge, many))
                self.told["large"] += 1
            elif words is not None:
                self.compare_changed(one, other, brute.touched(one, other, words))
        self.assert_often(none=60, list=20, endless=30, large=1)

    def compare_changed(self, one, other, touched):
        long_ones = [word for word in touched if len(word) >= brute.endless(one, other)]
        if not long_ones:
            self.assertTrue(alike(comparing.changed(one, other), touched))
            self.told["list" if touched else "none"] += 1
            return
        error = error_of(comparing.changed, one, other)
        self.assertEqual((type(error), error.word), (Endless, long_ones[0]))
        self.told["endless"] += 1
        for times in range(1, 8):
            # The first letter may be put in front as often as one likes.
            longer = long_ones[0][0] * times + long_ones[0]
            self.assertNotEqual(one.stem(longer), other.stem(longer))


class LettersThatAreNotLookedAt(unittest.TestCase):
    def test_the_words_of_all_letters_tell_the_same(self):
        seen = 0
        for one, other in pairs(900, 17):
            if brute.looked_at(one, other) != one.letters and brute.count(one, other, "alike") <= LIMIT:
                words = words_that_decide(one, other, "alike")
                if words is not None:
                    seen += 1
                    self.assertEqual(comparing.alike(one, other), brute.alike(one, other, words))
        self.assertGreater(seen, 80)


class Samples(unittest.TestCase):
    def test_the_pairs_are_of_all_the_kinds_that_are_wanted(self):
        seen = collections.Counter()
        for one, other in pairs(250, 11):
            seen["exceptions in one"] += bool(one.exceptions) != bool(other.exceptions)
            seen["exceptions in both"] += bool(one.exceptions) and bool(other.exceptions)
            seen["unlike steps"] += one.steps != other.steps
            seen["one letter"] += len(one.letters) == 1
            seen["no vowels"] += one.vowels == ""
            seen["vowels only"] += one.vowels == one.letters
            seen["letters not named"] += brute.looked_at(one, other) != one.letters
            for step in one.steps + other.steps:
                seen["no rules"] += len(step.rules) == 0
                seen[step.mode] += 1
                for condition in [condition for rule in step.rules for condition in rule.conditions]:
                    seen[condition[0]] += 1
                    if condition[0] == "not":
                        seen["not", condition[1][0]] += 1
        kinds = ["vowel", "runs", "ends", "double", "least", "shape"]
        for kind in kinds + [("not", kind) for kind in kinds] + ["longest", "first", "no rules", "one letter",
                             "no vowels", "vowels only", "letters not named", "exceptions in one",
                             "exceptions in both", "unlike steps"]:
            self.assertGreaterEqual(seen[kind], 5, kind)


class Walkers(unittest.TestCase):
    def test_like_the_stemmer_itself(self):
        texts = texts_up_to("bac", 6)
        for stemmer in random_stemmers(60):
            walker = Walker(stemmer)
            for text in texts:
                self.assertEqual(walker.stem(text), stemmer.stem(text))
                self.assertEqual(walker.trace(text), stemmer.trace(text))

    def test_long_words(self):
        stemmer, walker = porter(), Walker(porter())
        for text in ("hopping", "sses", "ies", "eed", "ing", "y", "bled", "pping"):
            for ahead in ("", "a", "bcd" * 13 + "b", "bcd" * 50, "ab" * 20, "ab" * 90, "sky" * 60):
                self.assertEqual(walker.trace(ahead + text), stemmer.trace(ahead + text))
