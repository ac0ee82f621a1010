"""Stemmers that several tests ask."""

import random

from stemsteps.rules import Rule, Step
from stemsteps.stemmers import Stemmer

ALPHABET = "abcdefghijklmnopqrstuvwxyz"


def porter_steps():
    """The first steps of a well-known stemmer for English, as far as the rules can tell them."""
    return [
        Step([Rule("sses", "ss"), Rule("ies", "i"), Rule("ss", "ss"), Rule("s", "")]),
        Step([
            Rule("eed", "ee", conditions=[("runs", 1)]),
            Rule("ed", "", conditions=[("vowel",)]),
            Rule("ing", "", conditions=[("vowel",)]),
        ]),
        Step([
            Rule("at", "ate", conditions=[("vowel",)]),
            Rule("tt", "t", conditions=[("vowel",)]),
            Rule("pp", "p", conditions=[("vowel",)]),
            Rule("l", "le", conditions=[("ends", ("b",))]),
        ]),
        Step([Rule("y", "i", conditions=[("vowel",)])]),
    ]


def porter():
    return Stemmer(ALPHABET, "aeiou", porter_steps(), exceptions={"sky": "sky", "news": "news", "dying": "die"})


def random_condition(chance, letters, inside=False):
    kinds = ["vowel", "runs", "ends", "double", "least", "shape"] + ["not"] * (not inside) * 3
    kind = chance.choice(kinds)
    if kind == "not":
        return ("not", random_condition(chance, letters, inside=True))
    if kind in ("runs", "least"):
        return (kind, chance.randint(0, 3))
    if kind == "ends":
        return (kind, tuple([random_text(chance, letters, 0, 2) for _ in range(chance.randint(0, 3))]))
    if kind == "shape":
        return (kind, random_text(chance, "vo", 0, 3))
    return (kind,)


def random_text(chance, letters, least, most):
    return "".join([chance.choice(letters) for _ in range(chance.randint(least, most))])


def random_step(chance, letters):
    mode = chance.choice(["longest", "first"])
    rules = {}
    for number in range(chance.randint(0, 5)):
        conditions = [random_condition(chance, letters) for _ in range(chance.choice([0, 1, 1, 2]))]
        rule = Rule(random_text(chance, letters, 1, 3), random_text(chance, letters, 0, 2), conditions=conditions)
        rules[rule.ending if mode == "longest" else number] = rule
    return Step(list(rules.values()), mode=mode)


def random_stemmers(many, letters="bac", vowels="a"):
    """Stemmers made by a fixed seed, so that they are the same in each run."""
    chance = random.Random(many)
    stemmers = []
    for _ in range(many):
        steps = [random_step(chance, letters) for _ in range(chance.randint(0, 3))]
        exceptions = {}
        for _ in range(chance.choice([0, 0, 1, 2])):
            exceptions[random_text(chance, letters, 1, 3)] = random_text(chance, letters, 0, 3)
        stemmers.append(Stemmer(letters, vowels, steps, exceptions=exceptions))
    return stemmers


def texts_up_to(letters, most):
    """All texts of the letters with at most so many letters, the empty one ahead."""
    texts = level = [""]
    for _ in range(most):
        level = [text + letter for text in level for letter in letters]
        texts = texts + level
    return texts
