"""What DOC.md says of all words, worked out by going through all words of all the letters.

Nothing of the modules that are tested with it is used here, only stemmers' properties and `stem` and `trace`.
"""

import itertools

from stemsteps.errors import SameEnding
from stemsteps.rules import Step
from stemsteps.stemmers import Stemmer
from tests import plain


def all_words(letters, most):
    """All words of the letters with at most so many letters, in order."""
    return ["".join(word) for length in range(1, most + 1) for word in itertools.product(letters, repeat=length)]


def numbers(one, other):
    """D, P, m, k, X, c and B."""
    told = [max(pair) for pair in zip(plain.bounds(one), plain.bounds(other))]
    _, _, runs, least, longest, last = told
    return told + [max(least, last + 2 * runs + 1, longest + 1)]


def enough(one, other, question):
    ends, puts, _, _, _, _, ahead = numbers(one, other)
    return {"alike": ahead + ends, "twice": ahead + 2 * ends, "finer": ahead + 2 * ends + puts}[question]


def endless(one, other):
    ends, _, _, least, longest, last, _ = numbers(one, other)
    return ends + max(least, last, longest + 1)


def looked_at(one, other):
    named = set()
    for stemmer in (one, other):
        for word, stem in stemmer.exceptions.items():
            named |= set(word) | set(stem)
        for rule in [rule for step in stemmer.steps for rule in step.rules]:
            named |= set(rule.ending) | set(rule.put)
            for condition in rule.conditions:
                kind, *values = condition[1] if condition[0] == "not" else condition
                named |= set("".join(values[0])) if kind == "ends" else set()
    more = {"v": 1, "o": 2}
    looked = []
    for letter in one.letters:
        kind = "v" if letter in one.vowels else "o"
        if letter not in named:
            more[kind] -= 1
        if letter in named or more[kind] >= 0:
            looked.append(letter)
    return "".join(looked)


def count(one, other, question):
    many = len(looked_at(one, other))
    return sum(many ** length for length in range(1, enough(one, other, question) + 1))


def count_of_changed(one, other):
    return sum(len(one.letters) ** length for length in range(1, enough(one, other, "alike") + 1))


def first(words, shows):
    return next((word for word in words if shows(word)), None)


def alike(one, other, words):
    return first(words, lambda word: one.stem(word) != other.stem(word))


def settled(stemmer, words):
    return first(words, lambda word: stemmer.stem(stemmer.stem(word)) != stemmer.stem(word))


def exchanged(one, other, words):
    return first(words, lambda word: one.stem(other.stem(word)) != other.stem(one.stem(word)))


def done(stemmer, step, rule, words):
    return first(words, lambda word: word not in stemmer.exceptions and stemmer.trace(word)[step][0] == rule)


def without(stemmer, step, rule):
    steps = [Step([told for at, told in enumerate(row.rules) if (place, at) != (step, rule)], mode=row.mode)
             for place, row in enumerate(stemmer.steps)]
    return Stemmer(stemmer.letters, stemmer.vowels, steps, exceptions=stemmer.exceptions)


def needless(stemmer, step, rule, words):
    return alike(stemmer, without(stemmer, step, rule), words)


def groups(stemmer, words):
    """The places of the words with each stem."""
    found = {}
    for place, word in enumerate(words):
        found.setdefault(stemmer.stem(word), []).append(place)
    return found


def least_pair(places, stems):
    """The places (y, x) of the least pair with unlike stems, or None."""
    pairs = [(y, x) for y in places for x in places if x < y and stems[x] != stems[y]]
    return min(pairs, default=None)


def finer(one, other, words):
    stems = [other.stem(word) for word in words]
    pairs = [least_pair(places, stems) for places in groups(one, words).values()]
    pairs = [pair for pair in pairs if pair is not None]
    if not pairs:
        return None
    y, x = min(pairs)
    return words[x], words[y]


def touched(one, other, words):
    return [word for word in words if one.stem(word) != other.stem(word)]


def longest_of(stemmer, stem):
    """A number of letters that no word with a stem goes beyond: each step takes an ending at most."""
    return max(len(stem) + plain.bounds(stemmer)[0], plain.bounds(stemmer)[4])


def words_of(stemmer, stem, words):
    return [word for word in words if stemmer.stem(word) == stem]


def fewest(letters, vowels, rules, joined, parted, mode):
    lots = []
    for marks in itertools.product((False, True), repeat=len(rules)):
        numbers_of_lot = tuple(number for number, mark in enumerate(marks) if mark)
        try:
            step = Step([rules[number] for number in numbers_of_lot], mode=mode)
        except SameEnding:
            continue
        stem = Stemmer(letters, vowels, [step]).stem
        if all(stem(x) == stem(y) for x, y in joined) and all(stem(x) != stem(y) for x, y in parted):
            lots.append((len(numbers_of_lot), numbers_of_lot))
    return min(lots, default=(0, None))[1]
