"""Conditions: what a rule asks of the rest, the part of a word ahead of the rule's ending."""

from stemsteps.checks import is_number, is_text_of
from stemsteps.errors import InvalidConditions, InvalidText


def is_condition(thing):
    """Whether a value, which may be anything, is a condition."""
    if isinstance(thing, tuple) and len(thing) == 2 and thing[0] == "not":
        # Only a condition of another kind may stand within, so this goes one level deep.
        return _is_plain(thing[1])
    return _is_plain(thing)


def holds(condition, rest, vowels):
    """Whether a condition holds for a rest, with the letters of a text as vowels."""
    if not is_condition(condition):
        raise InvalidConditions(None)
    if not isinstance(rest, str):
        raise InvalidText(rest)
    if not isinstance(vowels, str):
        raise InvalidText(vowels)
    return is_met(condition, rest, vowels)


def is_met(condition, rest, vowels):
    """Whether a condition holds, of arguments that are known to be right."""
    if condition[0] == "not":
        return not _is_plain_met(condition[1], rest, vowels)
    return _is_plain_met(condition, rest, vowels)


def plain_condition(condition):
    """The condition within a not, or the condition itself if it is of another kind."""
    if condition[0] == "not":
        return condition[1]
    return condition


def has_vowel(text, vowels):
    """Whether a vowel stands in a text."""
    # Vowels are few, and a text may be long.
    return any([vowel in text for vowel in vowels])


def count_runs(text, vowels):
    """The number of vowels of a text that are followed at once by a letter that is no vowel."""
    count = 0
    for at in range(len(text) - 1):
        if text[at] in vowels and text[at + 1] not in vowels:
            count += 1
    return count


def _is_plain(thing):
    """Whether a value is a condition of a kind other than not."""
    if not isinstance(thing, tuple):
        return False
    if len(thing) == 1:
        return thing[0] in ("vowel", "double")
    if len(thing) != 2:
        return False
    kind, value = thing
    if kind in ("runs", "least"):
        return is_number(value)
    if kind == "ends":
        return isinstance(value, tuple) and all([isinstance(text, str) for text in value])
    return kind == "shape" and is_text_of(value, "vo")


def _is_plain_met(condition, rest, vowels):
    """Whether a condition of a kind other than not holds."""
    kind = condition[0]
    if kind == "vowel":
        return has_vowel(rest, vowels)
    if kind == "double":
        return _ends_double(rest, vowels)
    value = condition[1]
    if kind == "runs":
        return count_runs(rest, vowels) >= value
    if kind == "ends":
        return any([rest.endswith(text) for text in value])
    if kind == "least":
        return len(rest) >= value
    return _has_shape(rest, value, vowels)


def _ends_double(rest, vowels):
    """Whether the last two letters of a rest are alike, and no vowels."""
    return len(rest) >= 2 and rest[-1] == rest[-2] and rest[-1] not in vowels


def _has_shape(rest, shape, vowels):
    """Whether the last letters of a rest are vowels just where a shape has v."""
    if len(rest) < len(shape):
        return False
    last = rest[len(rest) - len(shape):]
    return all([(letter in vowels) == (sign == "v") for letter, sign in zip(last, shape)])
