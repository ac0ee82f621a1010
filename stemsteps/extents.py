"""How many letters, and which ones, decide what holds for all words."""

from stemsteps.rules import texts_of_rule


def greater_bounds(one, other):
    """The greater one of each of the numbers D, P, m, k, X, c of two stemmers."""
    return [max(first, second) for first, second in zip(one.bounds(), other.bounds())]


def letters_that_decide(one, other, question):
    """The number of letters of the words that decide a question of two stemmers."""
    ends, puts, runs, least, longest, last = greater_bounds(one, other)
    ahead = max(least, last + 2 * runs + 1, longest + 1)
    if question == "alike":
        return ahead + ends
    if question == "twice":
        return ahead + 2 * ends
    return ahead + 2 * ends + puts


def letters_without_end(one, other):
    """The number of letters from which on a touched word can be made longer as often as one likes."""
    ends, _, _, least, longest, last = greater_bounds(one, other)
    return ends + max(least, last, longest + 1)


def letters_looked_at(one, other):
    """The letters of the words that decide a question of two stemmers, in their order."""
    named = "".join(_texts_of(one) + _texts_of(other))
    unnamed = [letter for letter in one.letters if letter not in named]
    # Letters that no text names differ only in being vowels, and in being alike or not side by side.
    vowels = [letter for letter in unnamed if letter in one.vowels]
    others = [letter for letter in unnamed if letter not in one.vowels]
    kept = vowels[:1] + others[:2]
    return "".join([letter for letter in one.letters if letter in named or letter in kept])


def number_of_words(letters, most):
    """The number of words of the letters with at most so many letters."""
    total = 0
    level = 1
    for _ in range(most):
        level = level * len(letters)
        total = total + level
    return total


def _texts_of(stemmer):
    """All texts that stand in the rules and exceptions of a stemmer."""
    texts = []
    for step in stemmer.steps:
        for rule in step.rules:
            texts.extend(texts_of_rule(rule))
    for word, stem in stemmer.exceptions.items():
        texts.extend([word, stem])
    return texts
