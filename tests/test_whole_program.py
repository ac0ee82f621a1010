"""What point 2 of DOC.md says of all calls together."""

import copy
import random
import unittest

from stemsteps.choosing import fewest
from stemsteps.comparing import alike, changed, done, exchanged, finer, needless, settled
from stemsteps.conditions import holds, is_condition
from stemsteps.counting import count, enough, words
from stemsteps.errors import StemError
from stemsteps.groups import carry, words_of
from stemsteps.rules import Rule, Step
from stemsteps.stemmers import Stemmer
from tests.things import alike as just_alike
from tests.things import odd_things


def all_words(letters, most):
    return list(words(letters, most))


def trace(stemmer, word):
    return stemmer.trace(word)


def made(letters, vowels, steps, exceptions):
    return Stemmer(letters, vowels, steps, exceptions=exceptions)


def made_step(rules, mode):
    return Step(rules, mode=mode)


def stemmers():
    """Stemmers that differ a little, of two kinds of vowels."""
    rules = [Rule("b", "", conditions=[("vowel",)]), Rule("ab", "b"), Rule("c", "a", conditions=[("not", ("double",))])]
    return [
        Stemmer("abc", vowels, [Step(some)], exceptions=exceptions)
        for vowels in ("a", "b")
        for some in (rules, rules[::-1], rules[:1])
        for exceptions in (None, {"cab": "b"})
    ]


def calls():
    """Calls of all functions, with arguments that are right and wrong."""
    made_calls = []
    for one in stemmers():
        made_calls += [(settled, one), (trace, one, "cab")] + [(words_of, one, stem) for stem in ("b", "", "d")]
        made_calls += [(call, one, 0, rule) for call in (done, needless) for rule in (0, 2, True)]
        for other in stemmers()[::3]:
            made_calls += [(call, one, other) for call in (alike, exchanged, finer, changed)]
            made_calls += [(call, one, other, question) for call in (enough, count) for question in ("finer", "fine")]
            made_calls += [(carry, one, other, stem) for stem in ("a", "b", "cc", "d")]
        made_calls += [(alike, one, "one"), (finer, None, one)]
    rules = [Rule("b", ""), Rule("b", "", conditions=[("vowel",)]), Rule("c", "a")]
    for vowels in ("a", "b", "aa"):
        for joined in ([("ab", "a")], [("bb", "b"), ("c", "a")], ["ab"]):
            made_calls.append((fewest, "abc", vowels, rules, joined, [("c", "cb")]))
    made_calls += [(all_words, "bac", 3), (all_words, "bac", -1), (all_words, "", 1)]
    made_calls += [(holds, ("runs", 1), "abab", vowels) for vowels in ("a", "b", 1)]
    made_calls += [(made, "abc", "a", [Step(rules, mode="first")], {"c": "d", "a": "b"})]
    made_calls += [(made, "abc", "a", [Step(rules, mode="first")], {"c": "b", "a": ""})]
    made_calls += [(made_step, rules, mode) for mode in ("longest", "first", "last")]
    made_calls += [(is_condition, thing) for thing in odd_things()[:40]]
    return made_calls


def answer(call, *given):
    """What a call returns, or the kind and the fields of the error that it raises."""
    try:
        return call(*given)
    except StemError as error:
        return type(error).__name__, list(vars(error).items())


class AllCalls(unittest.TestCase):
    def test_the_same_call_again_in_any_order(self):
        told = [answer(*call) for call in calls()]
        chance = random.Random(61)
        again, other = calls(), calls()
        for _ in range(2):
            order = list(range(len(told)))
            chance.shuffle(order)
            for place in order:
                self.assertTrue(just_alike(answer(*again[place]), told[place]), again[place])
                # The same with other objects that are equal.
                self.assertTrue(just_alike(answer(*other[place]), told[place]), other[place])

    def test_arguments_are_not_changed(self):
        for call in calls():
            given = list(call[1:])
            before = copy.deepcopy(given)
            answer(call[0], *given)
            self.assertTrue(just_alike(given, before), call)

    def test_lists_are_new(self):
        for call in calls():
            told = answer(*call)
            if isinstance(told, list):
                before = list(told)
                told.append("more")
                told.reverse()
                self.assertEqual(answer(*call), before)

    def test_a_stemmer_goes_on_as_before(self):
        rules = [Rule("b", ""), Rule("c", "b")]
        steps, exceptions = [Step(rules)], {"cc": "a"}
        one = Stemmer("abc", "a", steps, exceptions=exceptions)
        first = [words_of(one, "a"), settled(one), finer(one, one), one.stem("cc")]
        rules.clear()
        steps.append(Step([Rule("a", "")]))
        exceptions["ab"] = "c"
        one.exceptions.clear()
        self.assertEqual([words_of(one, "a"), settled(one), finer(one, one), one.stem("cc")], first)

    def test_true_is_not_1(self):
        one = stemmers()[0]
        for call in (done, needless):
            self.assertEqual(answer(call, one, False, 0), ("InvalidNumber", [("thing", False)]))
            self.assertEqual(answer(call, one, 0, True), ("InvalidNumber", [("thing", True)]))
        self.assertEqual(answer(all_words, "ab", True), ("InvalidNumber", [("thing", True)]))
        self.assertIs(answer(enough, one, one, True)[1][0][1], True)


class WhatWasReturned(unittest.TestCase):
    def test_may_be_passed_again(self):
        one = stemmers()[0]
        for word in words_of(one, "b") + all_words(one.letters, 3):
            for more in words_of(one, one.stem(word)):
                self.assertEqual(one.stem(more), one.stem(word))
            self.assertIn(word, words_of(one, one.stem(word)))
        less = one.without(0, 0).without(0, 0)
        self.assertEqual(alike(less, one), alike(one, less))
        again = Stemmer(one.letters, one.vowels, one.steps, exceptions=one.exceptions)
        self.assertIsNone(alike(one, again))
        self.assertTrue(one == again)
