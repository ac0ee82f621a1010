"""What one step does to a text."""

from stemsteps.conditions import is_met


def step_at(step, text, vowels):
    """The number of the rule of a step that is done at a text, or None, and the text behind the step."""
    for number in rules_to_try(step, text):
        rule = step.rules[number]
        rest = text[:len(text) - len(rule.ending)]
        if all([is_met(condition, rest, vowels) for condition in rule.conditions]):
            return number, rest + rule.put
    return None, text


def rules_to_try(step, text):
    """The numbers of the rules that may be done at a text, the first one ahead of the others."""
    standing = [number for number, rule in enumerate(step.rules) if text.endswith(rule.ending)]
    if step.mode == "first":
        return standing
    # A rule that is taken for its longest ending hides the others, also if its conditions fail.
    return _longest(step.rules, standing)


def longest_ending(step):
    """The length of the longest ending of a step, 0 for a step without rules."""
    return max([len(rule.ending) for rule in step.rules], default=0)


def _longest(rules, standing):
    """The number, in a list, of the rule with the longest ending, or an empty list if none stands."""
    longest = []
    for number in standing:
        if not longest or len(rules[number].ending) > len(rules[longest[0]].ending):
            longest = [number]
    return longest
