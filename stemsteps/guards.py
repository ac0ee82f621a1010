"""What is asked of the stemmers that functions are given."""

from stemsteps.errors import InvalidStemmer, UnlikeLetters
from stemsteps.stemmers import Stemmer


def check_stemmer(stemmer):
    """Raise an error if a value is not a stemmer."""
    if not isinstance(stemmer, Stemmer):
        raise InvalidStemmer(stemmer)


def check_like_letters(one, other):
    """Raise an error if two stemmers do not have the same letters, in their order, and the same vowels."""
    if one.letters != other.letters or one.vowels != other.vowels:
        raise UnlikeLetters()


def check_stemmers(one, other):
    """Raise an error if two values are not stemmers with the same letters and vowels."""
    check_stemmer(one)
    check_stemmer(other)
    check_like_letters(one, other)
