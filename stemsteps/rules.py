"""Rules, which exchange an ending, and steps, which choose the rule that is done."""

from stemsteps.checks import ALPHABET, is_list, is_text_of, is_word_of
from stemsteps.conditions import is_condition, plain_condition
from stemsteps.errors import InvalidConditions, InvalidMode, InvalidRules, InvalidText, SameEnding


class Rule:
    """An ending, the text that is put in its place, and what the rest has to meet."""

    def __init__(self, ending, put, *, conditions=()):
        if not is_word_of(ending, ALPHABET):
            raise InvalidText(ending)
        if not is_text_of(put, ALPHABET):
            raise InvalidText(put)
        _check_conditions(conditions)
        self._ending = ending
        self._put = put
        self._conditions = tuple(conditions)

    @property
    def ending(self):
        """The text that the rule takes from the end of a word."""
        return self._ending

    @ending.setter
    def ending(self, value):
        # An error has a field of this name, so the name must have a setter; a rule stays as it is.
        raise AttributeError("the ending of a rule cannot be changed")

    @property
    def put(self):
        """The text that the rule puts in place of the ending, perhaps empty."""
        return self._put

    @property
    def conditions(self):
        """The tuple of the conditions that all have to hold for the rest."""
        return self._conditions

    def __eq__(self, other):
        return (
            isinstance(other, Rule)
            and self._ending == other._ending
            and self._put == other._put
            and self._conditions == other._conditions
        )


class Step:
    """Rules in order, of which at most one is done at a word, and the mode that tells which."""

    def __init__(self, rules, *, mode="longest"):
        _check_rules(rules)
        check_mode(mode)
        if mode == "longest":
            _check_endings(rules)
        self._rules = tuple(rules)
        self._mode = mode

    @property
    def rules(self):
        """The tuple of the rules."""
        return self._rules

    @property
    def mode(self):
        """Which rule is done: "longest" or "first"."""
        return self._mode

    def __eq__(self, other):
        return isinstance(other, Step) and self._rules == other._rules and self._mode == other._mode


def check_mode(mode):
    """Raise an error if a value is not a mode of a step."""
    if mode not in ("longest", "first"):
        raise InvalidMode(mode)


def texts_of_rule(rule):
    """The texts of a rule in which letters stand: the shapes of its conditions are none of them."""
    texts = [rule.ending, rule.put]
    for condition in rule.conditions:
        plain = plain_condition(condition)
        if plain[0] == "ends":
            texts.extend(plain[1])
    return texts


def rule_fits(rule, letters):
    """Whether only these letters stand in the texts of a rule."""
    return all([is_text_of(text, letters) for text in texts_of_rule(rule)])


def _check_conditions(conditions):
    """Raise an error if a value is not a list of conditions."""
    if not is_list(conditions):
        raise InvalidConditions(None)
    for place, condition in enumerate(conditions):
        if not is_condition(condition):
            raise InvalidConditions(place)


def _check_rules(rules):
    """Raise an error if a value is not a list of rules."""
    if not is_list(rules):
        raise InvalidRules(None)
    for place, rule in enumerate(rules):
        if not isinstance(rule, Rule):
            raise InvalidRules(place)


def _check_endings(rules):
    """Raise an error if two rules have the same ending."""
    seen = set()
    for rule in rules:
        if rule.ending in seen:
            raise SameEnding(rule.ending)
        seen.add(rule.ending)
