"""Questions of stemmers about all words, however long, and the least words that show the answers."""

from stemsteps.checks import check_rule_place
from stemsteps.counting import words
from stemsteps.errors import Endless, TooLarge
from stemsteps.extents import letters_looked_at, letters_that_decide, letters_without_end, number_of_words
from stemsteps.guards import check_stemmer, check_stemmers
from stemsteps.walkers import Walker

MOST_WORDS = 30000


def alike(one, other):
    """None if two stemmers give every word the same stem, otherwise the least word with unlike stems."""
    check_stemmers(one, other)
    letters, most = _extent(one, other, "alike")
    return _first_unlike(one, other, letters, most)


def settled(stemmer):
    """None if each stem is its own stem, otherwise the least word whose stem is not."""
    check_stemmer(stemmer)
    letters, most = _extent(stemmer, stemmer, "twice")
    walker = Walker(stemmer)
    for word in words(letters, most):
        stem = walker.stem(word)
        if walker.stem(stem) != stem:
            return word
    return None


def exchanged(one, other):
    """None if two stemmers may be exchanged, otherwise the least word that shows they may not."""
    check_stemmers(one, other)
    letters, most = _extent(one, other, "twice")
    first, second = Walker(one), Walker(other)
    for word in words(letters, most):
        if first.stem(second.stem(word)) != second.stem(first.stem(word)):
            return word
    return None


def done(stemmer, step, rule):
    """The least word, no exception, on the way of which a rule is done, or None if it is never done."""
    check_stemmer(stemmer)
    check_rule_place(stemmer.steps, step, rule)
    letters, most = _extent(stemmer, stemmer, "alike")
    walker = Walker(stemmer)
    for word in words(letters, most):
        way = walker.trace(word)
        if len(way) > 0 and way[step][0] == rule:
            return word
    return None


def needless(stemmer, step, rule):
    """None if a stemmer without a rule is alike, otherwise the least word that has another stem without it."""
    check_stemmer(stemmer)
    check_rule_place(stemmer.steps, step, rule)
    letters, most = _extent(stemmer, stemmer, "alike")
    return _first_unlike(stemmer, stemmer.without(step, rule), letters, most)


def finer(one, other):
    """None if other joins all words that one joins, otherwise the least pair that it does not join."""
    check_stemmers(one, other)
    letters, most = _extent(one, other, "finer")
    first, second = Walker(one), Walker(other)
    least = {}
    for word in words(letters, most):
        # Up to here all words of a stem by one have one stem by other, so the least of them stands for all.
        told = second.stem(word)
        ahead, wanted = least.setdefault(first.stem(word), (word, told))
        if told != wanted:
            return ahead, word
    return None


def changed(one, other):
    """The list of all words that two stemmers give unlike stems, in order."""
    check_stemmers(one, other)
    letters = one.letters
    most = letters_that_decide(one, other, "alike")
    _check_number(number_of_words(letters, most))
    endless = letters_without_end(one, other)
    first, second = Walker(one), Walker(other)
    touched = []
    for word in words(letters, most):
        if first.stem(word) != second.stem(word):
            if len(word) >= endless:
                raise Endless(word)
            touched.append(word)
    return touched


def _extent(one, other, question):
    """The letters and the greatest length of the words that decide a question, if these are not too many."""
    letters = letters_looked_at(one, other)
    most = letters_that_decide(one, other, question)
    _check_number(number_of_words(letters, most))
    return letters, most


def _check_number(number):
    """Raise an error if so many words are too many to be looked at."""
    if number > MOST_WORDS:
        raise TooLarge(number)


def _first_unlike(one, other, letters, most):
    """The least word of the letters, of at most so many, with unlike stems by two stemmers, or None."""
    first, second = Walker(one), Walker(other)
    for word in words(letters, most):
        if first.stem(word) != second.stem(word):
            return word
    return None
