"""Pairs of stemmers for the questions about all words, made by a fixed seed."""

import functools
import random

from stemsteps.rules import Rule, Step
from stemsteps.stemmers import Stemmer
from tests.samples import random_text

# Letters, vowels, and the letters that rules and exceptions name.
LETTERS = [
    ("a", "", "a"), ("a", "a", "a"), ("ba", "a", "ab"), ("ab", "", "ab"), ("ab", "ab", "ab"), ("bac", "a", "abc"),
    ("bac", "ac", "ab"), ("dcab", "a", "ab"), ("zaxyebi", "aei", "ab"), ("zyxwb", "", "b"), ("uoiea", "aeiou", "a"),
]


def small_condition(chance, named, inside=False):
    kind = chance.choice(["vowel", "runs", "ends", "double", "least", "shape"] + ["not"] * (not inside) * 3)
    if kind == "not":
        return ("not", small_condition(chance, named, inside=True))
    if kind == "runs":
        return (kind, chance.choice([0, 1, 1]))
    if kind == "least":
        return (kind, chance.randint(0, 3))
    if kind == "ends":
        return (kind, tuple([random_text(chance, named, 0, 2) for _ in range(chance.randint(0, 2))]))
    if kind == "shape":
        return (kind, random_text(chance, "vo", 0, 2))
    return (kind,)


def small_rule(chance, named):
    conditions = [small_condition(chance, named) for _ in range(chance.choice([0, 0, 1, 2]))]
    put = random_text(chance, named, 0, chance.choice([0, 1, 2]))
    return Rule(random_text(chance, named, 1, chance.choice([1, 1, 2])), put, conditions=conditions)


def step_of(rules, mode):
    """A step of these rules, in the mode longest without those whose ending stands ahead."""
    if mode == "longest":
        rules = list({rule.ending: rule for rule in rules[::-1]}.values())[::-1]
    return Step(rules, mode=mode)


def small_step(chance, named):
    rules = [small_rule(chance, named) for _ in range(chance.choice([0, 1, 1, 2, 3]))]
    return step_of(rules, chance.choice(["longest", "first"]))


def small_exceptions(chance, named):
    words = [random_text(chance, named, 1, 2) for _ in range(chance.choice([0, 0, 0, 1, 2]))]
    return {word: random_text(chance, named, 0, 2) for word in words}


def small_stemmer(chance, letters, vowels, named):
    steps = [small_step(chance, named) for _ in range(chance.choice([0, 1, 1, 1, 2]))]
    return Stemmer(letters, vowels, steps, exceptions=small_exceptions(chance, named))


def changed_rules(chance, rules, named):
    """Rules a little changed; often nothing that a stem would show."""
    rules = list(rules)
    way = chance.choice(["less", "more", "order", "condition", "twice"])
    if way == "more":
        rules.insert(chance.randint(0, len(rules)), small_rule(chance, named))
    if way == "less" and rules:
        rules.pop(chance.randrange(len(rules)))
    if way == "order":
        chance.shuffle(rules)
    if way == "twice" and rules:
        rules.append(chance.choice(rules))
    if way == "condition" and rules:
        place = chance.randrange(len(rules))
        more = chance.choice([("least", 0), ("ends", ("",)), ("runs", 0), ("not", ("shape", "v")), ("least", 1)])
        rule = rules[place]
        rules[place] = Rule(rule.ending, rule.put, conditions=rule.conditions + (more,))
    return rules


def variation(chance, stemmer, named):
    """A stemmer that is made from another one by a small change."""
    steps, exceptions = list(stemmer.steps), stemmer.exceptions
    way = chance.choice(["rules", "rules", "exception", "stem", "empty", "step", "none", "bare"])
    if way == "rules" and steps:
        place = chance.randrange(len(steps))
        steps[place] = step_of(changed_rules(chance, steps[place].rules, named), steps[place].mode)
    if way == "exception":
        word = random_text(chance, named, 1, 2)
        exceptions[word] = stemmer.stem(word)
    if way == "stem":
        exceptions[random_text(chance, named, 1, 2)] = random_text(chance, named, 0, 2)
    if way == "empty":
        steps.insert(chance.randint(0, len(steps)), Step([], mode=chance.choice(["longest", "first"])))
    if way == "step":
        steps.append(small_step(chance, named))
    if way == "bare":
        steps, exceptions = [], {}
    return Stemmer(stemmer.letters, stemmer.vowels, steps, exceptions=exceptions)


@functools.lru_cache(maxsize=None)
def pairs(many, seed):
    """Pairs of stemmers with the same letters and vowels."""
    chance = random.Random(seed)
    made = []
    for _ in range(many):
        letters, vowels, named = chance.choice(LETTERS)
        one = small_stemmer(chance, letters, vowels, named)
        other = variation(chance, one, named)
        if chance.random() < 0.25:
            other = small_stemmer(chance, letters, vowels, named)
        made.append((one, other) if chance.random() < 0.5 else (other, one))
    return made
