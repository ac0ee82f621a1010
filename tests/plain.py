"""What DOC.md says of conditions, steps, bounds and sights, written a second time in another way.

Conditions are asked of the pattern of a text: v for each vowel and o for each other letter.
"""

import re


def pattern(text, vowels):
    return "".join(["v" if letter in vowels else "o" for letter in text])


def holds(condition, rest, vowels):
    kind, values = condition[0], condition[1:]
    form = pattern(rest, vowels)
    if kind == "not":
        return not holds(values[0], rest, vowels)
    return {
        "vowel": lambda: form.count("v") > 0,
        "runs": lambda: form.count("vo") >= values[0],
        "ends": lambda: any(("^" + rest)[::-1].startswith(text[::-1]) for text in values[0]),
        "double": lambda: form[-2:] == "oo" and re.search(r"(.)\1\Z", rest, re.DOTALL) is not None,
        "least": lambda: len(rest) >= values[0],
        "shape": lambda: form.endswith(values[0]),
    }[kind]()


def done(step, text, vowels):
    """The number of the rule that is done at a text, or None."""
    order = list(enumerate(step.rules))
    if step.mode == "longest":
        order.sort(key=lambda pair: -len(pair[1].ending))
    for number, rule in order:
        if re.search(rule.ending + r"\Z", text):
            rest = re.sub(rule.ending + r"\Z", "", text)
            if all(holds(condition, rest, vowels) for condition in rule.conditions):
                return number
            if step.mode == "longest":
                return None
    return None


def trace(stemmer, word):
    if word in stemmer.exceptions:
        return []
    way = []
    for step in stemmer.steps:
        number = done(step, word, stemmer.vowels)
        if number is not None:
            rule = step.rules[number]
            word = re.sub(rule.ending + r"\Z", rule.put, word)
        way.append((number, word))
    return way


def stem(stemmer, word):
    if word in stemmer.exceptions:
        return stemmer.exceptions[word]
    return ([(None, word)] + trace(stemmer, word))[-1][1]


def bounds(stemmer):
    conditions = []
    for step in stemmer.steps:
        for rule in step.rules:
            for condition in rule.conditions:
                conditions.append(condition[1] if condition[0] == "not" else condition)
    seen, runs, least = [0], [0], [0]
    for condition in conditions:
        if condition[0] == "ends":
            seen += [len(text) for text in condition[1]]
        elif condition[0] == "shape":
            seen += [len(condition[1])]
        elif condition[0] == "double":
            seen += [2]
        elif condition[0] == "runs":
            seen += [1]
            runs += [condition[1]]
        elif condition[0] == "least":
            least += [condition[1]]
    texts = [""] + list(stemmer.exceptions) + list(stemmer.exceptions.values())
    return (
        sum(max([0] + [len(rule.ending) for rule in step.rules]) for step in stemmer.steps),
        sum(max([0] + [len(rule.put) for rule in step.rules]) for step in stemmer.steps),
        max(runs),
        max(least),
        max(len(text) for text in texts),
        max(seen),
    )


def sight(stemmer, text):
    _, _, runs, least, _, seen = bounds(stemmer)
    form = pattern(text, stemmer.vowels)
    return (
        text[::-1][:seen][::-1],
        "v" in form,
        min(runs, form.count("vo")),
        min(least, len(form)),
    )
