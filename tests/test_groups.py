import unittest

from stemsteps.errors import InvalidStemmer, InvalidText, NoWord, Parted, UnlikeLetters
from stemsteps.groups import carry, words_of
from stemsteps.rules import Rule, Step
from stemsteps.stemmers import Stemmer
from tests import brute
from tests.pairs import pairs
from tests.samples import porter, porter_steps, random_stemmers
from tests.things import ErrorTests, alike, error_of, not_texts, odd_things

MOST = 3000


def stemmer_of(*steps, letters="abc", vowels="a", mode="first", exceptions=None):
    return Stemmer(letters, vowels, [Step(rules, mode=mode) for rules in steps], exceptions=exceptions)


class WordsOf(unittest.TestCase):
    def test_ordinary(self):
        for stem, words in {
            "hop": "hop hopp hops hoped hopps hopeds hoping hopped hopings hoppeds hopping hoppings",
            "die": "die dying dieing dieings", "sky": "sky skys", "skys": "", "ss": "ss sses", "": "s",
            "agree": "agree agreed agrees agreeds agreeing agreeings",
        }.items():
            self.assertTrue(alike(words_of(porter(), stem), words.split()), stem)

    def test_by_hand(self):
        stemmer = stemmer_of([Rule("bc", "b"), Rule("c", "")], [Rule("a", "b", conditions=[("least", 1)])])
        for stem, words in {
            "": ["c"], "a": ["a", "ac"], "b": ["b", "bc"], "c": ["cc"], "ab": ["ab", "abc", "aa", "aac"],
            "ac": ["acc"], "ba": [], "bb": ["ba", "bb", "bac", "bbc"], "bc": ["bcc"],
        }.items():
            told = words_of(stemmer, stem)
            self.assertTrue(alike(told, sorted(words, key=lambda word: (len(word), word))), (stem, told))

    def test_the_order_of_the_letters(self):
        rules = [Rule("a", ""), Rule("b", ""), Rule("c", "")]
        for letters in ("abc", "cba", "bca"):
            told = words_of(stemmer_of(rules, rules, letters=letters), "")
            wanted = list(letters) + [one + other for one in letters for other in letters]
            self.assertEqual(told, wanted)

    def test_the_empty_text_is_no_word(self):
        self.assertEqual(words_of(stemmer_of(), ""), [])
        self.assertEqual(words_of(stemmer_of([Rule("ab", "")]), ""), ["ab"])
        self.assertEqual(words_of(stemmer_of(), "abc"), ["abc"])

    def test_exceptions(self):
        stemmer = stemmer_of([Rule("c", "")], exceptions={"ac": "b", "bc": "b", "cab": "b", "b": "", "ccccc": "a"})
        self.assertEqual(words_of(stemmer, "b"), ["ac", "bc", "cab"])
        self.assertEqual(words_of(stemmer, "a"), ["a", "ccccc"])
        self.assertEqual(words_of(stemmer, ""), ["b", "c"])

    def test_a_word_that_several_rules_would_make_stands_once(self):
        stemmer = stemmer_of([Rule("c", "c"), Rule("bc", "bc"), Rule("c", "")], [Rule("a", "a"), Rule("a", "")])
        self.assertEqual(words_of(stemmer, "abc"), ["abc"])
        self.assertEqual(words_of(stemmer_of([Rule("c", "c"), Rule("bc", "bc")]), "bc"), ["bc"])

    def test_the_same_as_told_in_another_way(self):
        told = 0
        for one, other in pairs(150, 21):
            for stemmer in (one, other):
                told += self.compare(stemmer, [""] + brute.all_words(stemmer.letters, 2)[:12])
        for stemmer in random_stemmers(50):
            told += self.compare(stemmer, [""] + brute.all_words(stemmer.letters, 2))
        self.assertGreater(told, 800)

    def compare(self, stemmer, stems):
        most = max(brute.longest_of(stemmer, stem) for stem in stems)
        if sum(len(stemmer.letters) ** length for length in range(1, most + 1)) > MOST:
            return 0
        words = brute.all_words(stemmer.letters, most)
        for stem in stems:
            self.assertTrue(alike(words_of(stemmer, stem), brute.words_of(stemmer, stem, words)), stem)
        return len(stems)

    def test_a_new_list(self):
        stemmer = stemmer_of([Rule("c", "")])
        words_of(stemmer, "a").clear()
        self.assertEqual(words_of(stemmer=stemmer, stem="a"), ["a", "ac"])


class Carry(unittest.TestCase, ErrorTests):
    def test_ordinary(self):
        one = Stemmer(porter().letters, "aeiou", porter_steps()[:1])
        self.assertEqual(carry(one, porter(), "motoring"), "motor")
        self.assert_error(NoWord, "text", "s", carry, one, porter(), "s")
        self.assertEqual(carry(porter(), porter(), "die"), "die")

    def test_the_stem_may_be_empty(self):
        one = stemmer_of([Rule("c", "b")])
        self.assertEqual(carry(one, stemmer_of([Rule("c", ""), Rule("b", "")]), "b"), "")
        self.assertEqual(carry(stemmer_of([Rule("c", "")]), stemmer_of([Rule("c", "a")]), ""), "a")

    def test_no_word(self):
        one = stemmer_of([Rule("c", "b")])
        for stem in ("c", "", "abc"):
            self.assert_error(NoWord, "text", stem, carry, one, one, stem)

    def test_parted(self):
        one = stemmer_of([Rule("c", ""), Rule("b", "")])
        for other, pair in [
            (stemmer_of(), ("a", "ab")), (stemmer_of([Rule("b", "")]), ("a", "ac")),
            (stemmer_of([Rule("c", "")]), ("a", "ab")), (stemmer_of([Rule("c", "b")]), ("a", "ab")),
            (stemmer_of([Rule("c", ""), Rule("b", "")], exceptions={"a": "b"}), ("a", "ab")),
        ]:
            error = error_of(carry, one, other, "a")
            self.assertIs(type(error), Parted)
            self.assertEqual((error.first_word, error.second_word), pair)
        one = stemmer_of([Rule("b", ""), Rule("c", "")], letters="cab")
        error = error_of(carry, one, stemmer_of(letters="cab"), "a")
        self.assertEqual((error.first_word, error.second_word), ("a", "ac"))

    def test_words_behind_the_first_that_are_like_each_other(self):
        one = stemmer_of(exceptions={"b": "a", "c": "a", "bb": "a"})
        other = stemmer_of(exceptions={"a": "b", "b": "b", "c": "a", "bb": "a"})
        error = error_of(carry, one, other, "a")
        self.assertEqual((error.first_word, error.second_word), ("a", "c"))

    def test_the_same_as_told_in_another_way(self):
        seen = {"stem": 0, "parted": 0, "none": 0}
        for one, other in pairs(250, 22):
            for stem in [""] + brute.all_words(one.letters, 2)[:10]:
                most = brute.longest_of(one, stem)
                if sum(len(one.letters) ** length for length in range(1, most + 1)) <= MOST // 2:
                    seen[self.compare(one, other, stem, brute.all_words(one.letters, most))] += 1
        self.assertGreater(min(seen.values()), 100, seen)

    def compare(self, one, other, stem, words):
        group = brute.words_of(one, stem, words)
        if not group:
            self.assert_error(NoWord, "text", stem, carry, one, other, stem)
            return "none"
        pair = brute.least_pair(range(len(group)), [other.stem(word) for word in group])
        if pair is None:
            self.assertTrue(alike(carry(one, other, stem), other.stem(group[-1])))
            return "stem"
        error = error_of(carry, one, other, stem)
        self.assertIs(type(error), Parted)
        self.assertEqual((error.first_word, error.second_word), (group[pair[1]], group[pair[0]]))
        return "parted"

    def test_by_name(self):
        one = stemmer_of([Rule("c", "b")])
        self.assertEqual(carry(stem="b", other=stemmer_of([Rule("c", ""), Rule("b", "")]), one=one), "")
        self.assertEqual(carry(one, one, stem="b"), "b")


class WrongArguments(unittest.TestCase, ErrorTests):
    def test_no_stemmer(self):
        for thing in odd_things() + [Stemmer]:
            if not isinstance(thing, Stemmer):
                self.assert_error(InvalidStemmer, "thing", thing, words_of, thing, "d")
                self.assert_error(InvalidStemmer, "thing", thing, carry, thing, "other", "d")
                self.assert_error(InvalidStemmer, "thing", thing, carry, stemmer_of(), thing, "d")
                self.assert_error(InvalidStemmer, "thing", thing, carry, stemmer_of(letters="ab"), thing, "d")

    def test_no_text_of_the_letters(self):
        for thing in not_texts() + ["d", "abd", "A", " ", "a\n", "\u00e4"]:
            self.assert_error(InvalidText, "thing", thing, words_of, stemmer_of(), thing)
            self.assert_error(InvalidText, "thing", thing, carry, stemmer_of(), stemmer_of(), thing)
            self.assert_error(InvalidText, "thing", thing, carry, stemmer_of(), stemmer_of(letters="abcdef"), thing)

    def test_the_text_goes_by_the_letters_of_one(self):
        few, many = stemmer_of(letters="ab"), stemmer_of(letters="abc")
        self.assert_error(InvalidText, "thing", "c", carry, few, many, "c")
        with self.assertRaises(UnlikeLetters):
            carry(many, few, "c")

    def test_unlike_letters_ahead_of_no_word(self):
        one = stemmer_of([Rule("c", "b")])
        unlike = [stemmer_of(letters=letters) for letters in ("acb", "abcd", "ab")]
        for other in unlike + [stemmer_of(vowels=vowels) for vowels in ("", "b", "ab")]:
            for stem in ("c", "b", "", "a"):
                # No word has the first and the third of these.
                with self.assertRaises(UnlikeLetters):
                    carry(one, other, stem)
