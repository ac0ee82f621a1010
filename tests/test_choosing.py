import random
import unittest

from stemsteps.choosing import fewest
from stemsteps.errors import InvalidLetters, InvalidMode, InvalidPairs, InvalidRules, InvalidVowels
from stemsteps.rules import Rule
from stemsteps.stemmers import Stemmer
from tests import brute
from tests.pairs import LETTERS, small_rule, step_of
from tests.samples import ALPHABET, random_text
from tests.things import ErrorTests, alike, not_lists, not_texts, odd_things

S, ED, ING, IES = Rule("s", ""), Rule("ed", ""), Rule("ing", ""), Rule("ies", "y")
ENGLISH = (ALPHABET, "aeiou")


class Fewest(unittest.TestCase):
    def test_ordinary(self):
        rules = [S, ED, ING, IES]
        for joined, parted, choice in [
            ([("cat", "cats")], [], (0,)),
            ([("cat", "cats"), ("walk", "walking")], [], (0, 2)),
            ([("fly", "flies"), ("cat", "cats")], [], (0, 3)),
            ([("walked", "walking")], [], (1, 2)),
            ([("walked", "walking"), ("flies", "fly")], [("cat", "cats")], (1, 2, 3)),
            ([("cat", "cats")], [("bus", "bu")], None),
            ([], [("cat", "cats"), ("walk", "walks")], ()),
            ([("cat", "dog")], [], None),
        ]:
            for mode in ("longest", "first"):
                told = fewest(*ENGLISH, rules, joined, parted, mode=mode)
                if (joined, mode) == ([("fly", "flies"), ("cat", "cats")], "first"):
                    # The rule of s stands ahead of that of ies, and is done at flies.
                    self.assertIsNone(told)
                else:
                    self.assertTrue(alike(told, choice), (joined, mode, told))

    def test_without_rules_or_pairs(self):
        for mode in ("longest", "first"):
            self.assertTrue(alike(fewest("ab", "a", [], [], [], mode=mode), ()))
            self.assertTrue(alike(fewest("ab", "a", [Rule("a", "")], [], [], mode=mode), ()))
            self.assertIsNone(fewest("ab", "a", [], [("a", "b")], [], mode=mode))
            self.assertEqual(fewest("ab", "a", (), (), (("a", "b"),), mode=mode), ())

    def test_a_word_beside_itself(self):
        self.assertEqual(fewest("ab", "a", [Rule("a", "")], [("a", "a")], []), ())
        self.assertIsNone(fewest("ab", "a", [Rule("a", "")], [], [("a", "a")]))

    def test_the_first_as_tuples_are_compared(self):
        rules = [Rule("c", "a"), Rule("b", ""), Rule("b", "", conditions=[("vowel",)]), Rule("d", ""), Rule("d", "")]
        joined = [("ab", "a"), ("ad", "a")]
        self.assertEqual(fewest("abcd", "a", rules, joined, [], mode="first"), (1, 3))
        self.assertEqual(fewest("abcd", "a", rules[::-1], joined, [], mode="first"), (0, 2))
        self.assertEqual(fewest("abcd", "a", rules, [("ab", "a")], [("b", "a")], mode="first"), (1,))
        self.assertEqual(fewest("abcd", "a", rules, [("ab", "bb")], [], mode="first"), None)

    def test_fewer_go_ahead_of_the_first(self):
        rules = [Rule("b", "c"), Rule("c", ""), Rule("b", "", conditions=[("least", 1)])]
        self.assertEqual(fewest("abc", "a", rules, [("ab", "a")], [], mode="first"), (2,))

    def test_the_same_ending(self):
        rules = [Rule("b", "", conditions=[("vowel",)]), Rule("b", "", conditions=[("not", ("vowel",))])]
        joined = [("ab", "a"), ("cb", "c")]
        self.assertEqual(fewest("abc", "a", rules, joined, [], mode="first"), (0, 1))
        self.assertIsNone(fewest("abc", "a", rules, joined, []))
        self.assertIsNone(fewest("abc", "a", rules, joined, [], mode="longest"))
        self.assertEqual(fewest("abc", "a", rules + [Rule("b", "")], joined, []), (2,))

    def test_the_mode_longest_hides_shorter_endings(self):
        rules = [Rule("b", ""), Rule("ab", "ab", conditions=[("least", 9)])]
        pairs = [("cb", "c")], [("ab", "a")]
        self.assertEqual(fewest("abc", "a", rules, *pairs), (0, 1))
        self.assertIsNone(fewest("abc", "a", rules, *pairs, mode="first"))

    def test_vowels(self):
        rules = [Rule("b", "", conditions=[("vowel",)])]
        for vowels, choice in (("a", (0,)), ("", None), ("cb", None), ("ba", (0,))):
            self.assertEqual(fewest("abc", vowels, rules, [("ab", "a")], []), choice)

    def test_the_same_as_told_in_another_way(self):
        chance = random.Random(31)
        told = {"none": 0, "several": 0, "one": 0, "empty": 0}
        for _ in range(500):
            choice = self.compare(chance, *chance.choice(LETTERS))
            told["none" if choice is None else ["empty", "one", "several"][min(len(choice), 2)]] += 1
        self.assertGreater(min(told.values()), 20, told)

    def compare(self, chance, letters, vowels, named):
        mode = chance.choice(["longest", "first"])
        rules = [small_rule(chance, named) for _ in range(chance.randint(0, 6))]
        stem = Stemmer(letters, vowels, [step_of(chance.sample(rules, (len(rules) + 1) // 2), mode)]).stem
        words = [random_text(chance, letters, 0, 1) + random_text(chance, named, 1, 2) for _ in range(15)]
        pairs = [(one, other) for one in words for other in words if one != other]
        chance.shuffle(pairs)
        alike_ones = [pair for pair in pairs if stem(pair[0]) == stem(pair[1])]
        joined = alike_ones[:chance.randint(0, 6)] + chance.sample(pairs, chance.choice([0, 0, 0, 1]) * bool(pairs))
        unlike = [pair for pair in pairs if stem(pair[0]) != stem(pair[1])]
        parted = unlike[:chance.randint(0, 3)] + chance.sample(pairs, chance.choice([0, 0, 0, 1]) * bool(pairs))
        choice = fewest(letters, vowels, rules, joined, parted, mode=mode)
        wanted = brute.fewest(letters, vowels, rules, joined, parted, mode)
        self.assertTrue(alike(choice, wanted), (choice, wanted))
        return choice

    def test_by_name(self):
        told = fewest(mode="first", parted=[("b", "a")], joined=[("ab", "a")], rules=[Rule("b", "")], vowels="",
                      letters="ab")
        self.assertEqual(told, (0,))

    def test_the_mode_only_by_name(self):
        with self.assertRaises(TypeError):
            fewest("ab", "a", [], [], [], "first")


class WrongArguments(unittest.TestCase, ErrorTests):
    def test_letters(self):
        for thing in not_texts() + ["", "aa", "aB", "a ", "\u00e4"]:
            self.assert_error(InvalidLetters, "thing", thing, fewest, thing, 1, 2, 3, 4, mode=5)
            self.assert_error(InvalidLetters, "thing", thing, fewest, thing, "", [], [], [])

    def test_vowels(self):
        for thing in not_texts() + ["c", "aa", "aba", "A", " "]:
            self.assert_error(InvalidVowels, "thing", thing, fewest, "ab", thing, 2, 3, 4, mode=5)
            self.assert_error(InvalidVowels, "thing", thing, fewest, "ab", thing, [], [], [])

    def test_rules_that_are_no_list(self):
        for thing in not_lists():
            self.assert_error(InvalidRules, "place", None, fewest, "ab", "a", thing, 3, 4, mode=5)
            self.assert_error(InvalidRules, "place", None, fewest, "ab", "a", thing, [], [])

    def test_the_first_wrong_rule(self):
        wrong = [thing for thing in odd_things() if not isinstance(thing, Rule)] + [
            Rule, Rule("c", ""), Rule("a", "c"), Rule("ac", "a"), Rule("a", "", conditions=[("ends", ("b", "ca"))]),
            Rule("a", "", conditions=[("vowel",), ("not", ("ends", ("A",)))]),
        ]
        fits = [Rule("a", "b", conditions=[("shape", "vo"), ("ends", ("ab",))]), Rule("a", ""), Rule("b", "")]
        for thing in wrong:
            for place in range(3):
                given = fits[:place] + [thing, fits[0], None]
                self.assert_error(InvalidRules, "place", place, fewest, "ab", "a", given, 3, 4, mode=5)
                self.assert_error(InvalidRules, "place", place, fewest, "ab", "a", tuple(given), [], [])

    def test_pairs_that_are_no_list(self):
        for thing in not_lists():
            self.assert_error(InvalidPairs, "place", None, fewest, "ab", "a", [], thing, 4, mode=5)
            self.assert_error(InvalidPairs, "place", None, fewest, "ab", "a", [], [], thing, mode=5)

    def test_the_first_wrong_pair(self):
        wrong = [thing for thing in odd_things() if thing != ("a", "b")] + [
            ["a", "b"], ("a", ""), ("", "a"), ("a", "c"), ("c", "a"), ("A", "a"), ("a", "b", "a"), (("a", "b"),),
            ("a", ["b"]), ("a b", "a"), ("a", None), ("a", True), "ab", {"a": "b", "b": "a"},
        ]
        for thing in wrong:
            for place in range(3):
                given = [("a", "b"), ("ab", "ab"), ("bb", "a")][:place] + [thing, ("a", "b"), None]
                for pairs in (given, tuple(given)):
                    self.assert_error(InvalidPairs, "place", place, fewest, "ab", "a", [], pairs, 4, mode=5)
                    self.assert_error(InvalidPairs, "place", place, fewest, "ab", "a", [], [], pairs, mode=5)
                    self.assert_error(InvalidPairs, "place", place, fewest, "ab", "a", [], given[:place], pairs)

    def test_a_bare_pair_is_a_list_of_what_stands_in_it(self):
        self.assert_error(InvalidPairs, "place", 0, fewest, "ab", "a", [], ("a", "b"), [])

    def test_joined_ahead_of_parted(self):
        self.assert_error(InvalidPairs, "place", 1, fewest, "ab", "a", [], [("a", "b"), 1], [2])

    def test_a_mode_that_is_none(self):
        for thing in odd_things() + ["Longest", "first ", ("longest",), ["first"]]:
            if thing not in ("longest", "first"):
                self.assert_error(InvalidMode, "thing", thing, fewest, "ab", "a", [], [], [], mode=thing)
                rules = [Rule("a", ""), Rule("a", "b")]
                self.assert_error(InvalidMode, "thing", thing, fewest, "ab", "a", rules, [("a", "b")], [], mode=thing)
