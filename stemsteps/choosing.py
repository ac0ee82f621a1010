"""The fewest rules that join the pairs of words that shall be joined, and part those that shall be parted."""

from itertools import combinations

from stemsteps.checks import check_letters, check_vowels, is_list, is_word_of
from stemsteps.conditions import is_met
from stemsteps.errors import InvalidPairs, InvalidRules
from stemsteps.rules import Rule, check_mode, rule_fits


def fewest(letters, vowels, rules, joined, parted, *, mode="longest"):
    """The numbers of the fewest rules that serve, the first as tuples are compared; None if no choice serves."""
    check_letters(letters)
    check_vowels(vowels, letters)
    _check_rules(rules, letters)
    _check_pairs(joined, letters)
    _check_pairs(parted, letters)
    check_mode(mode)
    outcomes = _outcomes_of_words(list(joined) + list(parted), rules, mode, vowels)
    for size in range(len(rules) + 1):
        for choice in combinations(range(len(rules)), size):
            if _may_stand_together(choice, rules, mode) and _serves(choice, joined, parted, outcomes):
                return choice
    return None


def _check_rules(rules, letters):
    """Raise an error if a value is not a list of rules with texts of the letters."""
    if not is_list(rules):
        raise InvalidRules(None)
    for place, rule in enumerate(rules):
        if not isinstance(rule, Rule) or not rule_fits(rule, letters):
            raise InvalidRules(place)


def _check_pairs(pairs, letters):
    """Raise an error if a value is not a list of tuples of two words of the letters."""
    if not is_list(pairs):
        raise InvalidPairs(None)
    for place, pair in enumerate(pairs):
        if not isinstance(pair, tuple) or len(pair) != 2 or not all([is_word_of(word, letters) for word in pair]):
            raise InvalidPairs(place)


def _outcomes_of_words(pairs, rules, mode, vowels):
    """For each word of the pairs what the rules make of it."""
    outcomes = {}
    for pair in pairs:
        for word in pair:
            if word not in outcomes:
                outcomes[word] = _outcomes(word, rules, mode, vowels)
    return outcomes


def _outcomes(word, rules, mode, vowels):
    """The numbers of rules, each with the stem that a word has if none of those ahead of it is chosen."""
    outcomes = []
    for number in _standing(word, rules, mode):
        rule = rules[number]
        rest = word[:len(word) - len(rule.ending)]
        if all([is_met(condition, rest, vowels) for condition in rule.conditions]):
            outcomes.append((number, rest + rule.put))
        elif mode == "longest":
            # A rule that is taken for its longest ending hides the others, also if its conditions fail.
            outcomes.append((number, word))
    return outcomes


def _standing(word, rules, mode):
    """The numbers of the rules that stand at a word, in the order in which one of them is taken."""
    standing = [number for number, rule in enumerate(rules) if word.endswith(rule.ending)]
    if mode == "first":
        return standing
    by_length = sorted([(-len(rules[number].ending), number) for number in standing])
    return [number for _, number in by_length]


def _may_stand_together(choice, rules, mode):
    """Whether some rules can be those of one step."""
    endings = [rules[number].ending for number in choice]
    return mode == "first" or len(set(endings)) == len(endings)


def _serves(choice, joined, parted, outcomes):
    """Whether some rules join and part the words of the pairs as they shall."""
    if any([_stem(pair[0], choice, outcomes) != _stem(pair[1], choice, outcomes) for pair in joined]):
        return False
    return all([_stem(pair[0], choice, outcomes) != _stem(pair[1], choice, outcomes) for pair in parted])


def _stem(word, choice, outcomes):
    """The stem of a word by the chosen rules."""
    for number, stem in outcomes[word]:
        if number in choice:
            return stem
    return word
