"""What was told of all words, asked of words of 200 letters."""

import random
import unittest

from stemsteps import comparing
from stemsteps.errors import Endless, TooLarge
from stemsteps.groups import carry, words_of
from tests.pairs import pairs
from tests.samples import random_text
from tests.things import error_of

LONG = 200


class LongWords(unittest.TestCase):
    def setUp(self):
        self.chance = random.Random(41)

    def long_words(self, one, other):
        """Words of 200 letters that end in what the rules look for, of many and of few letters."""
        ends = [""]
        for step in one.steps + other.steps:
            ends += [rule.ending for rule in step.rules]
            ends += [rule.ending + more.ending for rule in step.rules for more in step.rules]
        made = []
        for end in ends:
            few = random_text(self.chance, one.letters, 1, 2)
            for ahead in (random_text(self.chance, one.letters, LONG, LONG), few * LONG):
                made.append((ahead + end)[-LONG:])
                made.append((few[:1] * LONG + ahead[:3] + end)[-LONG:])
        return made

    def told_none(self, call, seed, of_one=False):
        """Pairs, or stemmers, of which a question tells None."""
        asked = []
        for one, other in pairs(300, seed):
            given = (one,) if of_one else (one, other)
            try:
                if call(*given) is None:
                    asked.append((one, other))
            except TooLarge:
                pass
        self.assertGreater(len(asked), 50)
        return asked

    def test_alike(self):
        for one, other in self.told_none(comparing.alike, 51):
            for word in self.long_words(one, other):
                self.assertEqual(one.stem(word), other.stem(word))

    def test_settled(self):
        for one, other in self.told_none(comparing.settled, 52, of_one=True):
            for word in self.long_words(one, other):
                self.assertEqual(one.stem(one.stem(word)), one.stem(word))

    def test_exchanged(self):
        for one, other in self.told_none(comparing.exchanged, 53):
            for word in self.long_words(one, other):
                self.assertEqual(one.stem(other.stem(word)), other.stem(one.stem(word)))

    def test_finer(self):
        joined = 0
        for one, other in self.told_none(comparing.finer, 54):
            for word in self.long_words(one, other)[:12]:
                # All words of one stem by one have one stem by other.
                stem = one.stem(word)
                group = words_of(one, stem)
                self.assertIn(word, group)
                self.assertEqual({other.stem(more) for more in group}, {carry(one, other, stem)})
                joined += len(group) > 1
        self.assertGreater(joined, 200)

    def test_done_and_needless(self):
        seen = {"never done": 0, "needless": 0}
        for one, other in pairs(300, 55):
            words = self.long_words(one, other)
            for step, row in enumerate(one.steps):
                for rule in range(len(row.rules)):
                    error = error_of(comparing.done, one, step, rule)
                    if error is None and comparing.done(one, step, rule) is None:
                        seen["never done"] += 1
                        self.assertNotIn(rule, [one.trace(word)[step][0] for word in words])
                    if error is None and comparing.needless(one, step, rule) is None:
                        seen["needless"] += 1
                        less = one.without(step, rule)
                        self.assertEqual([one.stem(word) for word in words], [less.stem(word) for word in words])
        self.assertGreater(min(seen.values()), 30, seen)

    def test_changed(self):
        seen = 0
        for one, other in pairs(300, 56):
            error = error_of(comparing.changed, one, other)
            if error is None:
                seen += 1
                for word in self.long_words(one, other):
                    self.assertEqual(one.stem(word), other.stem(word))
            if isinstance(error, Endless):
                longer = error.word[0] * (LONG - len(error.word)) + error.word
                self.assertNotEqual(one.stem(longer), other.stem(longer))
        self.assertGreater(seen, 100)
