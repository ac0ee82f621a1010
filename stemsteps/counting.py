"""How many letters decide a question, how many words that makes, and the words themselves."""

from stemsteps.checks import check_letters, is_number
from stemsteps.errors import InvalidNumber, InvalidQuestion
from stemsteps.extents import letters_looked_at, letters_that_decide, number_of_words
from stemsteps.guards import check_like_letters, check_stemmer


def enough(one, other, question):
    """The number of letters that decide a question of two stemmers."""
    _check_question(one, other, question)
    return letters_that_decide(one, other, question)


def count(one, other, question):
    """The number of words that a question of two stemmers looks at."""
    _check_question(one, other, question)
    return number_of_words(letters_looked_at(one, other), letters_that_decide(one, other, question))


def words(letters, most):
    """All words of the letters with at most so many letters, in order, each made when it is wanted."""
    check_letters(letters)
    if not is_number(most):
        raise InvalidNumber(most)
    for length in range(1, most + 1):
        word = letters[0] * length
        while word is not None:
            yield word
            word = _next_word(word, letters)


def _check_question(one, other, question):
    """Raise an error if one of the arguments of a question, or the stemmers together, are wrong."""
    check_stemmer(one)
    check_stemmer(other)
    if question not in ("alike", "twice", "finer"):
        raise InvalidQuestion(question)
    check_like_letters(one, other)


def _next_word(word, letters):
    """The next word, in order, with as many letters; None behind the last one."""
    kept = word.rstrip(letters[-1])
    if kept == "":
        return None
    following = letters[letters.index(kept[-1]) + 1]
    return kept[:-1] + following + letters[0] * (len(word) - len(kept))
