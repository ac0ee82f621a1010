"""What several modules ask of the arguments that they are given."""

from stemsteps.errors import InvalidLetters, InvalidNumber, InvalidText, InvalidVowels

ALPHABET = "abcdefghijklmnopqrstuvwxyz"


def is_list(thing):
    """Whether a value is a list, or a tuple, which is taken alike."""
    return isinstance(thing, (list, tuple))


def is_number(thing):
    """Whether a value is an integer from 0 on."""
    # Python takes True for a kind of 1, which the package never does.
    return isinstance(thing, int) and not isinstance(thing, bool) and thing >= 0


def is_place(thing, length):
    """Whether a value is the number of an item in a list of this length."""
    return is_number(thing) and thing < length


def is_text_of(thing, letters):
    """Whether a value is a text in which only these letters stand, perhaps none."""
    return isinstance(thing, str) and all([letter in letters for letter in thing])


def is_choice_of(thing, letters):
    """Whether a value is a text of different letters out of these, perhaps of none."""
    return is_text_of(thing, letters) and len(set(thing)) == len(thing)


def is_word_of(thing, letters):
    """Whether a value is a text of at least one of these letters."""
    return is_text_of(thing, letters) and len(thing) > 0


def check_letters(letters):
    """Raise an error if a value cannot be the letters of a stemmer."""
    if not is_choice_of(letters, ALPHABET) or len(letters) == 0:
        raise InvalidLetters(letters)


def check_vowels(vowels, letters):
    """Raise an error if a value cannot be the vowels of a stemmer with these letters."""
    if not is_choice_of(vowels, letters):
        raise InvalidVowels(vowels)


def check_text(text, letters):
    """Raise an error if a value is not a text of these letters, perhaps of none."""
    if not is_text_of(text, letters):
        raise InvalidText(text)


def check_rule_place(steps, step, rule):
    """Raise an error if two values are not the number of one of the steps and that of a rule of it."""
    if not is_place(step, len(steps)):
        raise InvalidNumber(step)
    if not is_place(rule, len(steps[step].rules)):
        raise InvalidNumber(rule)
