"""The numbers that bound what a stemmer looks at, and the sight of a text by them."""

from stemsteps.conditions import count_runs, has_vowel, is_met, plain_condition


def bounds_of(steps, exceptions):
    """The tuple (D, P, m, k, X, c) for a stemmer with these steps and exceptions."""
    plain = _plain_conditions(steps)
    return (
        sum([_longest([rule.ending for rule in step.rules]) for step in steps]),
        sum([_longest([rule.put for rule in step.rules]) for step in steps]),
        _greatest_number(plain, "runs"),
        _greatest_number(plain, "least"),
        _longest(list(exceptions) + list(exceptions.values())),
        max([_letters_seen(condition) for condition in plain], default=0),
    )


def sight_of(text, vowels, bounds):
    """The sight of a text, for a stemmer with these vowels and bounds."""
    runs, letters, last = bounds[2], bounds[3], bounds[5]
    return (
        text[max(0, len(text) - last):],
        has_vowel(text, vowels),
        min(runs, count_runs(text, vowels)) if runs > 0 else 0,
        min(letters, len(text)),
    )


def holds_at_sight(condition, sight, vowels):
    """Whether a condition holds for the texts of a sight, by a stemmer in which the condition stands."""
    last, vowel, runs, least = sight
    kind = condition[0]
    if kind == "not":
        return not holds_at_sight(condition[1], sight, vowels)
    if kind == "vowel":
        return vowel
    if kind == "runs":
        return runs >= condition[1]
    if kind == "least":
        return least >= condition[1]
    # The conditions of the other kinds look at the last letters only.
    return is_met(condition, last, vowels)


def _plain_conditions(steps):
    """The conditions of all rules of the steps; of a not, the condition within it."""
    plain = []
    for step in steps:
        for rule in step.rules:
            plain.extend([plain_condition(condition) for condition in rule.conditions])
    return plain


def _longest(texts):
    """The length of the longest of the texts, 0 if there is none."""
    return max([len(text) for text in texts], default=0)


def _greatest_number(plain, kind):
    """The greatest number in the conditions of a kind, 0 if there is none."""
    return max([condition[1] for condition in plain if condition[0] == kind], default=0)


def _letters_seen(condition):
    """How many of the last letters of a rest a condition, of a kind other than not, looks at."""
    kind = condition[0]
    if kind == "ends":
        return _longest(condition[1])
    if kind == "shape":
        return len(condition[1])
    if kind == "double":
        return 2
    if kind == "runs":
        # Whether one more letter makes one more run depends on the letter ahead of it.
        return 1
    return 0
