"""Helpers of the tests: things of all kinds, and questions about errors."""

from stemsteps.errors import InvalidText
from stemsteps.rules import Rule, Step
from stemsteps.stemmers import Stemmer


def nested(make, thing, depth):
    for _ in range(depth):
        thing = make(thing)
    return thing


def odd_things():
    """Things of all kinds that a caller may hand in where an error is stated."""
    rule = Rule("a", "b", conditions=[("vowel",)])
    return [
        None, True, False, 0, 1, -1, 2, 7, 10 ** 99, -(10 ** 99),
        "", "a", "b", "ab", "A", "1", " ", "\n", "a b", "~", "vowel", "not", "longest", "first",
        (), ("a",), ("a", "b"), ("a", 1), (1,), (None,), (True, False), ("vowel",), ("not", ("vowel",)),
        [], ["a"], ["a", "b"], [1], [None], ["vowel"], [("vowel",)], [[]],
        {}, {"a": 1}, {"a": "a"}, {1: "a"}, {None: None}, {("a", (1, None)): [1]},
        rule, Step([rule]), Stemmer("ab", "a", [Step([rule])], exceptions={"ab": "b"}),
        [rule], (rule,), [Step([rule])], {"a": rule}, InvalidText("a"),
        nested(lambda thing: (thing,), "a", 59), nested(lambda thing: [thing], 1, 59),
        nested(lambda thing: {"a": thing}, None, 59), nested(lambda thing: ("not", thing), ("vowel",), 30),
        ["a"] * 4999, tuple(range(4999)), {number: str(number) for number in range(2499)},
    ]


def not_texts():
    return [thing for thing in odd_things() if not isinstance(thing, str)]


def not_lists():
    return [thing for thing in odd_things() if not isinstance(thing, (list, tuple))]


def alike(one, other):
    """Whether two things are equal and of the same kinds, so that True is not 1."""
    if type(one) is not type(other):
        return False
    if isinstance(one, (list, tuple)):
        return len(one) == len(other) and all(alike(a, b) for a, b in zip(one, other))
    if isinstance(one, dict):
        return alike(list(one.items()), list(other.items()))
    return one == other


def error_of(call, *given, **named):
    """The error that a call raises; None if it raises none."""
    try:
        call(*given, **named)
    except Exception as error:
        return error
    return None


class ErrorTests:
    """Mixed into test cases that ask for errors."""

    def assert_error(self, kind, field, thing, call, *given, **named):
        """The call raises an error of just this kind, whose field is this thing."""
        error = error_of(call, *given, **named)
        self.assertIs(type(error), kind, f"{error!r} from {str(given)[:200]} {str(named)[:200]}")
        self.assertTrue(alike(getattr(error, field), thing), f"{field} is {getattr(error, field)!r}"[:200])
