"""Stemmers: steps, one after the other, and exceptions, that tell the stem of each word."""

from stemsteps.checks import check_letters, check_rule_place, check_text, check_vowels
from stemsteps.checks import is_list, is_text_of, is_word_of
from stemsteps.errors import InvalidExceptions, InvalidSteps
from stemsteps.measures import bounds_of, sight_of
from stemsteps.rules import Step, rule_fits
from stemsteps.stepping import step_at


class Stemmer:
    """Letters, some of them vowels, steps in order, and exceptions with their stems."""

    def __init__(self, letters, vowels, steps, *, exceptions=None):
        check_letters(letters)
        check_vowels(vowels, letters)
        _check_steps(steps, letters)
        _check_exceptions(exceptions, letters)
        self._letters = letters
        self._vowels = "".join([letter for letter in letters if letter in vowels])
        self._steps = tuple(steps)
        self._exceptions = {} if exceptions is None else dict(exceptions)
        self._bounds = bounds_of(self._steps, self._exceptions)

    @property
    def letters(self):
        """The letters, in the order that they were told in."""
        return self._letters

    @property
    def vowels(self):
        """The vowels, in the order of the letters."""
        return self._vowels

    @property
    def steps(self):
        """The tuple of the steps."""
        return self._steps

    @property
    def exceptions(self):
        """A new dict of the words that no step touches, with their stems."""
        return dict(self._exceptions)

    def __eq__(self, other):
        return (
            isinstance(other, Stemmer)
            and self._letters == other._letters
            and self._vowels == other._vowels
            and self._steps == other._steps
            and self._exceptions == other._exceptions
        )

    def stem(self, word):
        """The stem of a word, or of the empty text."""
        check_text(word, self._letters)
        if word in self._exceptions:
            return self._exceptions[word]
        text = word
        for step in self._steps:
            _, text = step_at(step, text, self._vowels)
        return text

    def trace(self, word):
        """For each step the number of the rule that is done, or None, and the text behind the step."""
        check_text(word, self._letters)
        if word in self._exceptions:
            return []
        way = []
        text = word
        for step in self._steps:
            number, text = step_at(step, text, self._vowels)
            way.append((number, text))
        return way

    def sight(self, word):
        """All that the rules can see of a text that stands far enough ahead of a word's end."""
        check_text(word, self._letters)
        return sight_of(word, self._vowels, self._bounds)

    def bounds(self):
        """The tuple (D, P, m, k, X, c) of the numbers that bound what the stemmer looks at."""
        return self._bounds

    def without(self, step, rule):
        """The stemmer without a rule; its step is kept, perhaps without rules."""
        check_rule_place(self._steps, step, rule)
        changed = self._steps[step]
        kept = Step(changed.rules[:rule] + changed.rules[rule + 1:], mode=changed.mode)
        steps = self._steps[:step] + (kept,) + self._steps[step + 1:]
        return Stemmer(self._letters, self._vowels, steps, exceptions=self._exceptions)


def _check_steps(steps, letters):
    """Raise an error if a value is not a list of steps with texts of these letters."""
    if not is_list(steps):
        raise InvalidSteps(None)
    for place, step in enumerate(steps):
        if not isinstance(step, Step) or not all([rule_fits(rule, letters) for rule in step.rules]):
            raise InvalidSteps(place)


def _check_exceptions(exceptions, letters):
    """Raise an error if a value is neither None nor a dict of words with stems of these letters."""
    if exceptions is None:
        return
    if not isinstance(exceptions, dict):
        raise InvalidExceptions(None)
    for word, stem in exceptions.items():
        if not is_word_of(word, letters) or not is_text_of(stem, letters):
            raise InvalidExceptions(word)
