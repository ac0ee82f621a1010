import time
import unittest
from itertools import product

from stemsteps.conditions import holds, is_condition
from stemsteps.errors import InvalidConditions, InvalidText
from tests import plain
from tests.things import ErrorTests, not_texts, odd_things

PLAIN = [
    ("vowel",), ("double",),
    ("runs", 0), ("runs", 1), ("runs", 8), ("runs", 10 ** 99),
    ("least", 0), ("least", 1), ("least", 8), ("least", 10 ** 99),
    ("ends", ()), ("ends", ("",)), ("ends", ("a",)), ("ends", ("a", "", "a")),
    ("ends", ("A b\n~?", "\u00e4\U0001f600")),
    ("shape", ""), ("shape", "v"), ("shape", "o"), ("shape", "vvoovovo"),
]

NONE_OF_THEM = [
    [], (), "", "vowel", None, True, 1, {}, {"vowel": True},
    ["vowel"], ["runs", 1], ["ends", ("a",)], ["not", ("vowel",)],
    ("Vowel",), ("vowels",), ("vowel ",), ("",), (None,), (True,), (1,), (("vowel",),), (["vowel"],),
    ("vowel", None), ("vowel", 1), ("vowel", ()), ("vowel", "vowel"), ("vowel", 1, 2),
    ("double", None), ("double", 2), ("double", "a"), ("double", 1, 2),
    ("runs",), ("runs", True), ("runs", False), ("runs", -1), ("runs", "1"), ("runs", None), ("runs", (1,)),
    ("runs", [1]), ("runs", 1, 2), ("runs", -(10 ** 99)), ("Runs", 1),
    ("least",), ("least", True), ("least", False), ("least", -1), ("least", "1"), ("least", None), ("least", 1, 1),
    ("ends",), ("ends", "a"), ("ends", ""), ("ends", ["a"]), ("ends", []), ("ends", None), ("ends", {"a": True}),
    ("ends", ("a", 1)), ("ends", (None, "a")), ("ends", ("a", ("b",))), ("ends", ("a", ["b"])), ("ends", (True,)),
    ("ends", ("a",), ("b",)), ("ends", "a", "b"),
    ("shape",), ("shape", "vx"), ("shape", "V"), ("shape", "v "), ("shape", "a"), ("shape", ("v",)), ("shape", ["v"]),
    ("shape", ()), ("shape", None), ("shape", 0), ("shape", "v", "o"), ("shape", "vo\n"),
    ("other",), ("other", 1), (None, 1), (1, 1), (True, "v"), ((), ()), ([], []), ({}, {}),
    ("not",), ("not", None), ("not", "vowel"), ("not", ["vowel"]), ("not", ()), ("not", True), ("not", ("not",)),
    ("not", ("vowel",), ("vowel",)), ("not", "vowel", 1), ("Not", ("vowel",)), ("not", ("runs", True)),
    ("not", ("least", -1)), ("not", ("ends", ["a"])), ("not", ("shape", "x")), ("not", ("vowel", 1)),
    ("not", ("not", ("vowel",))), ("not", ("not", ("runs", 1))), ("not", ("not", ("not", ("vowel",)))),
    (("not",), ("vowel",)), (None, ("vowel",)),
]

VOWELS = "aeiou"

# Condition, rests it holds for, rests it does not hold for.
TABLE = [
    (("vowel",), ["a", "ba", "ab", "bab", "bbbbbu"], ["", "b", "bcd", "yyy", "A", " ", "\n"]),
    (("runs", 0), ["", "a", "b", "ab", "aa"], []),
    (("runs", 1), ["ab", "tree!", "oats", "aab", "bab", "ab\n", "a ", "aA"], ["", "a", "b", "ba", "tree", "aa", "bcd"]),
    (("runs", 2), ["abab", "troubles", "private", "aabaab", "eeabob"], ["", "ab", "aba", "aaabbb", "troub", "babba"]),
    (("runs", 3), ["ababab", "ob" * 100], ["abab", "ababa", "ababaa"]),
    (("runs", 10 ** 99), [], ["", "ab", "ab" * 100]),
    (("ends", ()), [], ["", "a", "ab"]),
    (("ends", ("",)), ["", "a", "b c"], []),
    (("ends", ("s", "t")), ["s", "t", "ss", "ast", "ts"], ["", "a", "sa", "S", "ta", "st "]),
    (("ends", ("abc",)), ["abc", "xabc", "abcabc"], ["", "c", "bc", "abcd", "Abc", "ab"]),
    (("ends", ("zz", "")), ["", "a", "zz"], []),
    (("ends", ("\u00e4 ", "\n")), ["\u00e4 ", "a\u00e4 ", "\n", "a\n"], ["", " ", "\u00e4", "a "]),
    (("double",), ["bb", "abb", "bbb", "  ", "\n\n", "AA", "ayy"],
     ["", "b", "aa", "bcc a", "ab", "bbc", "bba", "baa", "bB"]),
    (("least", 0), ["", "a"], []),
    (("least", 1), ["a", "b", " ", "ab"], [""]),
    (("least", 3), ["abc", "abcd", "\n\n\n", "\U0001f600\U0001f600\U0001f600"],
     ["", "a", "ab", "\U0001f600\U0001f600"]),
    (("least", 10 ** 99), [], ["", "ab" * 100]),
    (("shape", ""), ["", "a", "b"], []),
    (("shape", "v"), ["a", "ba", "aa"], ["", "b", "ab", "A"]),
    (("shape", "o"), ["b", "ab", "bb", "A", " "], ["", "a", "ba"]),
    (("shape", "ovo"), ["hop", "ahop", "wow", "vav", "xxfiz"], ["", "op", "hoop", "hopp", "oho", "p"]),
    (("shape", "vvoo"), ["aabb", "eist", "xaabb"], ["abb", "aab", "abab", "bbaa", ""]),
]


class IsCondition(unittest.TestCase):
    def test_each_kind(self):
        for condition in PLAIN:
            self.assertIs(is_condition(condition), True, condition)

    def test_each_kind_within_not(self):
        for condition in PLAIN:
            self.assertIs(is_condition(("not", condition)), True, condition)

    def test_no_not_within_a_not(self):
        for condition in PLAIN:
            self.assertIs(is_condition(("not", ("not", condition))), False, condition)

    def test_a_list_is_no_tuple(self):
        for condition in PLAIN:
            self.assertIs(is_condition(list(condition)), False, condition)
            self.assertIs(is_condition(("not", list(condition))), False, condition)

    def test_an_item_too_few_or_too_many(self):
        for condition in PLAIN + [("not", condition) for condition in PLAIN]:
            self.assertIs(is_condition(condition[:-1]), False, condition)
            for more in (None, 0, "", (), condition[-1], ("vowel",)):
                self.assertIs(is_condition(condition + (more,)), False, condition)

    def test_things_that_are_none(self):
        for thing in NONE_OF_THEM:
            self.assertIs(is_condition(thing), False, thing)
            self.assertIs(is_condition(("not", thing)), False, thing)

    def test_things_of_all_kinds(self):
        for thing in odd_things():
            right = thing in [("vowel",), ("not", ("vowel",))]
            self.assertIs(is_condition(thing), right, str(thing)[:100])
            for kind in ("vowel", "double"):
                self.assertIs(is_condition((kind, thing)), False, str(thing)[:100])
            self.assertIs(is_condition((thing, "")), thing == "shape", str(thing)[:100])

    def test_numbers_of_all_kinds(self):
        for thing in odd_things():
            right = type(thing) is int and thing >= 0
            for kind in ("runs", "least"):
                self.assertIs(is_condition((kind, thing)), right, str(thing)[:100])
                self.assertIs(is_condition(("not", (kind, thing))), right, str(thing)[:100])

    def test_texts_of_all_kinds(self):
        for thing in odd_things():
            right = type(thing) is tuple and all(type(text) is str for text in thing)
            self.assertIs(is_condition(("ends", thing)), right, str(thing)[:100])
            self.assertIs(is_condition(("ends", ("a", thing))), type(thing) is str, str(thing)[:100])
            self.assertIs(is_condition(("shape", thing)), thing == "", str(thing)[:100])


class Holds(unittest.TestCase, ErrorTests):
    def test_where_a_condition_holds(self):
        for condition, rests, _ in TABLE:
            for rest in rests:
                self.assertIs(holds(condition, rest, VOWELS), True, (condition, rest))
                self.assertIs(holds(("not", condition), rest, VOWELS), False, (condition, rest))

    def test_where_a_condition_does_not_hold(self):
        for condition, _, rests in TABLE:
            for rest in rests:
                self.assertIs(holds(condition, rest, VOWELS), False, (condition, rest))
                self.assertIs(holds(("not", condition), rest, VOWELS), True, (condition, rest))

    def test_a_vowel_at_the_end_of_a_rest_makes_no_run(self):
        self.assertFalse(holds(("runs", 2), "aba", VOWELS))
        self.assertFalse(holds(("runs", 1), "a", VOWELS))
        self.assertTrue(holds(("runs", 1), "aba", VOWELS))

    def test_a_run_of_many_vowels_counts_once(self):
        self.assertTrue(holds(("runs", 1), "aeiouaeb", VOWELS))
        self.assertFalse(holds(("runs", 2), "aeiouaeb", VOWELS))

    def test_no_vowels_at_all(self):
        self.assertFalse(holds(("vowel",), "aeiou", ""))
        self.assertFalse(holds(("runs", 1), "abab", ""))
        self.assertTrue(holds(("double",), "aa", ""))
        self.assertTrue(holds(("shape", "oo"), "ae", ""))
        self.assertFalse(holds(("shape", "v"), "a", ""))

    def test_vowels_of_any_signs(self):
        vowels = " \n\u00e4\U0001f600A"
        for sign in vowels:
            self.assertTrue(holds(("vowel",), "b" + sign, vowels))
            self.assertTrue(holds(("runs", 1), sign + "b", vowels))
            self.assertFalse(holds(("double",), sign + sign, vowels))
            self.assertTrue(holds(("shape", "vo"), sign + "a", vowels))
        self.assertTrue(holds(("double",), "bcc", "aab"))
        self.assertFalse(holds(("vowel",), "c", "aab"))

    def test_vowels_in_any_order_and_told_twice(self):
        for vowels in ("ae", "ea", "aea", "eaae"):
            self.assertTrue(holds(("shape", "vov"), "abe", vowels))
            self.assertFalse(holds(("vowel",), "io", vowels))

    def test_long_rests(self):
        rest = "ab" * 100
        self.assertTrue(holds(("runs", 100), rest, "a"))
        self.assertFalse(holds(("runs", 101), rest, "a"))
        self.assertTrue(holds(("least", 200), rest, "a"))
        self.assertFalse(holds(("least", 201), rest, "a"))
        self.assertTrue(holds(("shape", "vo" * 100), rest, "a"))
        self.assertFalse(holds(("shape", "o" + "vo" * 100), rest, "a"))
        self.assertTrue(holds(("ends", (rest,)), rest, "a"))
        self.assertFalse(holds(("ends", ("b" + rest,)), rest, "a"))
        self.assertTrue(holds(("vowel",), "b" * 199 + "a", "a"))
        self.assertFalse(holds(("vowel",), "b" * 200, "a"))

    def test_very_long_rests_in_little_time(self):
        rest = "ab" * 50000
        begin = time.monotonic()
        for condition in PLAIN:
            holds(condition, rest, VOWELS)
        self.assertTrue(holds(("runs", 50000), rest, VOWELS))
        self.assertLess(time.monotonic() - begin, 5)

    def test_the_same_as_told_in_another_way(self):
        parts = product(("", "a", "b"), ("", "a", "c"), ("a", "b", ""), ("b", "e", ""))
        rests = ["".join(part) for part in parts]
        conditions = PLAIN + [("runs", 2), ("least", 3), ("ends", ("ab", "cb")), ("shape", "vo"), ("shape", "ov")]
        for condition in conditions + [("not", condition) for condition in conditions]:
            for rest in rests:
                for vowels in ("", "a", "ea", "abce"):
                    told = holds(condition, rest, vowels)
                    self.assertIs(told, plain.holds(condition, rest, vowels), (condition, rest, vowels))

    def test_what_is_no_condition(self):
        for thing in NONE_OF_THEM:
            self.assert_error(InvalidConditions, "place", None, holds, thing, "a", "a")
            self.assert_error(InvalidConditions, "place", None, holds, ("not", thing), "a", "a")

    def test_a_rest_that_is_no_text(self):
        for thing in not_texts():
            for condition in PLAIN:
                self.assert_error(InvalidText, "thing", thing, holds, condition, thing, "a")

    def test_vowels_that_are_no_text(self):
        for thing in not_texts():
            for condition in PLAIN:
                self.assert_error(InvalidText, "thing", thing, holds, condition, "ab", thing)

    def test_several_wrong_arguments(self):
        self.assert_error(InvalidConditions, "place", None, holds, ["vowel"], 1, 2)
        self.assert_error(InvalidConditions, "place", None, holds, ["vowel"], "a", 2)
        self.assert_error(InvalidConditions, "place", None, holds, ["vowel"], 1, "a")
        self.assert_error(InvalidText, "thing", 1, holds, ("vowel",), 1, 2)
        self.assert_error(InvalidText, "thing", 1, holds, vowels=2, rest=1, condition=("vowel",))

    def test_arguments_by_name(self):
        self.assertIs(holds(condition=("vowel",), rest="ba", vowels="a"), True)
        self.assertIs(holds(("vowel",), vowels="a", rest="b"), False)
        self.assertIs(is_condition(thing=("vowel",)), True)
