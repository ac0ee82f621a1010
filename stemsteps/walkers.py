"""The ways of many words through the steps of one stemmer, told without working out like things again."""

from stemsteps.measures import holds_at_sight, sight_of
from stemsteps.stepping import longest_ending, rules_to_try

# Longer texts are too many to be met again, and would take much room.
MOST_KEPT = 40


class Walker:
    """A stemmer's stems and traces of words of its letters, which are not checked.

    The tail of a text, as long as the longest ending of a step, and the sight of what is ahead of it tell
    which rule of the step is done; so this is worked out once for all texts with the same tail and sight.
    """

    def __init__(self, stemmer):
        self._steps = stemmer.steps
        self._vowels = stemmer.vowels
        self._bounds = stemmer.bounds()
        self._exceptions = stemmer.exceptions
        self._reaches = [longest_ending(step) for step in stemmer.steps]
        self._numbers = [{} for _ in stemmer.steps]
        self._sights = {}

    def stem(self, word):
        """The stem of a word, or of the empty text."""
        if word in self._exceptions:
            return self._exceptions[word]
        text = word
        for place in range(len(self._steps)):
            _, text = self.step_at(place, text)
        return text

    def trace(self, word):
        """For each step the number of the rule that is done, or None, and the text behind the step."""
        if word in self._exceptions:
            return []
        way = []
        text = word
        for place in range(len(self._steps)):
            number, text = self.step_at(place, text)
            way.append((number, text))
        return way

    def step_at(self, place, text):
        """The number of the rule of a step that is done at a text, or None, and the text behind the step."""
        cut = max(0, len(text) - self._reaches[place])
        tail = text[cut:]
        key = (self._sight(text[:cut]), tail)
        numbers = self._numbers[place]
        if key not in numbers:
            numbers[key] = self._rule_done(place, text, tail)
        number = numbers[key]
        if number is None:
            return None, text
        rule = self._steps[place].rules[number]
        return number, text[:len(text) - len(rule.ending)] + rule.put

    def _rule_done(self, place, text, tail):
        """The number of the rule of a step that is done at a text with this tail, or None."""
        step = self._steps[place]
        for number in rules_to_try(step, tail):
            rule = step.rules[number]
            sight = self._sight(text[:len(text) - len(rule.ending)])
            if all([holds_at_sight(condition, sight, self._vowels) for condition in rule.conditions]):
                return number
        return None

    def _sight(self, text):
        """The sight of a text."""
        if len(text) > MOST_KEPT:
            return sight_of(text, self._vowels, self._bounds)
        if text not in self._sights:
            self._sights[text] = sight_of(text, self._vowels, self._bounds)
        return self._sights[text]
