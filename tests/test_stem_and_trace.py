import unittest

from stemsteps.errors import InvalidText
from stemsteps.rules import Rule, Step
from stemsteps.stemmers import Stemmer
from tests import plain
from tests.samples import ALPHABET, porter, random_stemmers, texts_up_to
from tests.things import ErrorTests, alike, not_texts


def one_step(rules, mode="longest", vowels="a"):
    return Stemmer("abc", vowels, [Step(rules, mode=mode)])


class OrdinaryWords(unittest.TestCase):
    STEMS = {
        "caresses": "caress", "ponies": "poni", "ties": "ti", "caress": "caress", "cats": "cat",
        "feed": "feed", "agreed": "agree", "plastered": "plaster", "bled": "bled",
        "motoring": "motor", "sing": "sing", "conflated": "conflate", "troubled": "trouble",
        "hopping": "hop", "happy": "happi", "sky": "sky", "skies": "ski", "news": "news", "dying": "die",
        "tanned": "tann",
        "a": "a", "s": "", "ss": "ss", "ing": "ing", "y": "y", "by": "by", "as": "a", "": "",
    }

    def test_stems(self):
        stemmer = porter()
        for word, stem in self.STEMS.items():
            self.assertEqual(stemmer.stem(word), stem, word)

    def test_traces(self):
        stemmer = porter()
        for word, way in {
            "caresses": [(0, "caress"), (None, "caress"), (None, "caress"), (None, "caress")],
            "hopping": [(None, "hopping"), (2, "hopp"), (2, "hop"), (None, "hop")],
            "troubled": [(None, "troubled"), (1, "troubl"), (3, "trouble"), (None, "trouble")],
            "feed": [(None, "feed"), (None, "feed"), (None, "feed"), (None, "feed")],
            "happys": [(3, "happy"), (None, "happy"), (None, "happy"), (0, "happi")],
            "s": [(3, ""), (None, ""), (None, ""), (None, "")],
            "": [(None, "")] * 4,
            "sky": [], "dying": [], "news": [],
        }.items():
            self.assertTrue(alike(stemmer.trace(word), way), (word, stemmer.trace(word)))

    def test_by_name(self):
        stemmer = porter()
        self.assertEqual(stemmer.stem(word="cats"), "cat")
        self.assertEqual(stemmer.trace(word="sky"), [])

    def test_the_same_call_again(self):
        stemmer = porter()
        first = stemmer.trace("hopping")
        first.append("more")
        first[0] = None
        self.assertEqual(stemmer.trace("hopping"), [(None, "hopping"), (2, "hopp"), (2, "hop"), (None, "hop")])
        stemmer.trace("sky").append("more")
        self.assertEqual(stemmer.trace("sky"), [])
        self.assertEqual([stemmer.stem("hopping"), stemmer.stem("hopping")], ["hop", "hop"])


class TheModeLongest(unittest.TestCase):
    def test_the_longest_ending_is_taken(self):
        rules = [Rule("c", "a"), Rule("bc", "b"), Rule("abc", "")]
        for order in (rules, rules[::-1], rules[1:] + rules[:1]):
            stemmer = one_step(order)
            stems = [stemmer.stem(word) for word in ("c", "bc", "abc", "babc", "cc")]
            self.assertEqual(stems, ["a", "b", "", "b", "ca"])
            self.assertEqual(stemmer.trace("cbc"), [(order.index(rules[1]), "cb")])

    def test_no_rule_is_done_if_the_conditions_of_the_longest_fail(self):
        for rules in ([Rule("c", "a"), Rule("bc", "b", conditions=[("vowel",)])],
                      [Rule("bc", "b", conditions=[("vowel",)]), Rule("c", "a")]):
            stemmer = one_step(rules)
            self.assertEqual(stemmer.trace("cbc"), [(None, "cbc")])
            self.assertEqual(stemmer.stem("abc"), "ab")
            self.assertEqual(stemmer.stem("acc"), "aca")

    def test_all_conditions_have_to_hold(self):
        stemmer = one_step([Rule("c", "b", conditions=[("vowel",), ("least", 2), ("not", ("double",))])])
        stems = [stemmer.stem(word) for word in ("bac", "ac", "bbc", "abbc", "aac")]
        self.assertEqual(stems, ["bab", "ac", "bbc", "abbc", "aab"])


class TheModeFirst(unittest.TestCase):
    def test_the_first_that_stands_is_done_also_if_another_ending_is_longer(self):
        rules = [Rule("c", "a"), Rule("bc", "b")]
        self.assertEqual(one_step(rules, "first").trace("bc"), [(0, "ba")])
        self.assertEqual(one_step(rules[::-1], "first").trace("bc"), [(0, "b")])

    def test_a_rule_whose_conditions_fail_makes_way(self):
        rules = [
            Rule("bc", "", conditions=[("vowel",)]), Rule("a", "b"), Rule("c", "b", conditions=[("runs", 1)]),
            Rule("c", "a"),
        ]
        stemmer = one_step(rules, "first")
        self.assertEqual(stemmer.trace("abc"), [(0, "a")])
        self.assertEqual(stemmer.trace("bbc"), [(3, "bba")])
        self.assertEqual(stemmer.trace("abcc"), [(2, "abcb")])
        self.assertEqual(stemmer.trace("ba"), [(1, "bb")])
        self.assertEqual(stemmer.trace("bb"), [(None, "bb")])

    def test_rules_with_the_same_ending(self):
        rules = [Rule("c", "a", conditions=[("vowel",)]), Rule("c", "b"), Rule("c", "")]
        stemmer = one_step(rules, "first")
        self.assertEqual([stemmer.trace(word)[0] for word in ("ac", "bc")], [(0, "aa"), (1, "bb")])


class RulesAtAWord(unittest.TestCase):
    def test_a_rule_that_puts_its_ending_is_done(self):
        for mode in ("longest", "first"):
            self.assertEqual(one_step([Rule("c", "c")], mode).trace("ac"), [(0, "ac")])
            self.assertEqual(one_step([Rule("c", "c"), Rule("ac", "ac")], "first").trace("bac"), [(0, "bac")])

    def test_the_rest_may_be_nothing(self):
        self.assertEqual(one_step([Rule("abc", "a")]).stem("abc"), "a")
        self.assertEqual(one_step([Rule("abc", "")]).stem("abc"), "")
        self.assertEqual(one_step([Rule("abc", "", conditions=[("least", 1)])]).stem("abc"), "abc")
        self.assertEqual(one_step([Rule("abc", "", conditions=[("not", ("vowel",))])]).stem("abc"), "")

    def test_conditions_are_asked_of_the_rest_alone(self):
        self.assertEqual(one_step([Rule("ab", "", conditions=[("vowel",)])]).stem("cab"), "cab")
        self.assertEqual(one_step([Rule("b", "", conditions=[("runs", 1)])]).stem("cab"), "cab")
        self.assertEqual(one_step([Rule("b", "", conditions=[("ends", ("b",))])]).stem("ab"), "ab")
        self.assertEqual(one_step([Rule("b", "", conditions=[("double",)])]).stem("abb"), "abb")
        self.assertEqual(one_step([Rule("b", "", conditions=[("least", 2)])]).stem("ab"), "ab")
        self.assertEqual(one_step([Rule("b", "", conditions=[("shape", "vo")])]).stem("ab"), "ab")

    def test_the_conditions_go_by_the_vowels_of_the_stemmer(self):
        rules = [Rule("c", "", conditions=[("vowel",)])]
        self.assertEqual(one_step(rules, vowels="b").stem("bc"), "b")
        self.assertEqual(one_step(rules, vowels="a").stem("bc"), "bc")
        self.assertEqual(one_step(rules, vowels="").stem("ac"), "ac")

    def test_an_ending_is_exchanged_once_and_only_at_the_end(self):
        self.assertEqual(one_step([Rule("ab", "")]).stem("abab"), "ab")
        self.assertEqual(one_step([Rule("ab", "")]).stem("abc"), "abc")
        self.assertEqual(one_step([Rule("a", "aa")]).stem("aa"), "aaa")

    def test_an_ending_longer_than_the_word(self):
        self.assertEqual(one_step([Rule("aab", "")]).trace("ab"), [(None, "ab")])


class StepsInOrder(unittest.TestCase):
    def test_one_step_after_the_other(self):
        steps = [Step([Rule("a", "b")]), Step([Rule("b", "c")]), Step([Rule("c", "ca")])]
        self.assertEqual(Stemmer("abc", "a", steps).trace("aa"), [(0, "ab"), (0, "ac"), (0, "aca")])
        self.assertEqual(Stemmer("abc", "a", steps).stem("aa"), "aca")
        self.assertEqual(Stemmer("abc", "a", steps[::-1]).trace("aa"), [(None, "aa"), (None, "aa"), (0, "ab")])

    def test_a_text_that_becomes_empty_stays_so(self):
        steps = [Step([Rule("a", "")]), Step([Rule("a", "b"), Rule("b", "c")], mode="first"), Step([])]
        stemmer = Stemmer("abc", "a", steps)
        self.assertEqual(stemmer.trace("a"), [(0, ""), (None, ""), (None, "")])
        self.assertEqual(stemmer.stem("a"), "")

    def test_the_empty_text(self):
        for stemmer in (porter(), Stemmer("abc", "a", []), Stemmer("abc", "a", [Step([]), Step([Rule("a", "b")])])):
            self.assertEqual(stemmer.stem(""), "")
            self.assertTrue(alike(stemmer.trace(""), [(None, "")] * len(stemmer.steps)))

    def test_without_steps(self):
        stemmer = Stemmer("abc", "a", [], exceptions={"ab": "c"})
        self.assertEqual([stemmer.stem(word) for word in ("a", "ab", "cab", "")], ["a", "c", "cab", ""])
        self.assertEqual([stemmer.trace(word) for word in ("a", "ab", "cab", "")], [[], [], [], []])

    def test_steps_without_rules(self):
        stemmer = Stemmer("abc", "a", [Step([]), Step([], mode="first")])
        self.assertEqual(stemmer.stem("cab"), "cab")
        self.assertEqual(stemmer.trace("cab"), [(None, "cab"), (None, "cab")])


class Exceptions(unittest.TestCase):
    STEMMER = Stemmer("abc", "a", [Step([Rule("c", "")]), Step([Rule("b", "c")])], exceptions={
        "abc": "cc", "cc": "", "b": "b", "aac": "abc",
    })

    def test_the_told_stem_and_no_step(self):
        for word, stem in {"abc": "cc", "cc": "", "b": "b", "aac": "abc"}.items():
            self.assertEqual(self.STEMMER.stem(word), stem)
            self.assertTrue(alike(self.STEMMER.trace(word), []))

    def test_a_text_on_the_way_that_is_an_exception_is_none_there(self):
        self.assertEqual(self.STEMMER.trace("ccc"), [(0, "cc"), (None, "cc")])
        self.assertEqual(self.STEMMER.stem("ccc"), "cc")
        self.assertEqual(self.STEMMER.trace("bc"), [(0, "b"), (0, "c")])

    def test_longer_words_are_no_exceptions(self):
        self.assertEqual(self.STEMMER.stem("aabc"), "aac")
        self.assertEqual(self.STEMMER.stem("abcb"), "abcc")


class LongWords(unittest.TestCase):
    def test_words_of_200_letters(self):
        stemmer = porter()
        self.assertEqual(stemmer.stem("b" * 196 + "ings"), "b" * 196 + "ing")
        self.assertEqual(stemmer.stem("ab" * 98 + "ings"), "ab" * 98)
        self.assertEqual(stemmer.trace("a" * 199 + "s"), [(3, "a" * 199)] + [(None, "a" * 199)] * 3)
        self.assertEqual(Stemmer("abc", "a", []).stem("abcb" * 50), "abcb" * 50)

    def test_an_exception_beside_a_long_word(self):
        stemmer = Stemmer("ab", "a", [Step([Rule("a", "b")])], exceptions={"a" * 200: "b", "b" * 200: ""})
        stems = [stemmer.stem(word) for word in ("a" * 200, "b" * 200, "a" * 199)]
        self.assertEqual(stems, ["b", "", "a" * 198 + "b"])


class AllShortWords(unittest.TestCase):
    def test_the_same_as_told_in_another_way(self):
        texts = texts_up_to("bac", 5)
        for stemmer in random_stemmers(60):
            for text in texts:
                self.assertEqual(stemmer.stem(text), plain.stem(stemmer, text))
                self.assertTrue(alike(stemmer.trace(text), plain.trace(stemmer, text)))


class WrongWords(unittest.TestCase, ErrorTests):
    def test_what_is_no_text_of_the_letters(self):
        stemmer = Stemmer("abc", "a", [Step([Rule("c", "")])], exceptions={"ab": "c"})
        for ask in (stemmer.stem, stemmer.trace, stemmer.sight):
            for thing in not_texts() + ["d", "ad", "dc", "A", "abC", "a b", "ab\n", " ", "\u00e4", "a" * 199 + "d"]:
                self.assert_error(InvalidText, "thing", thing, ask, thing)
                self.assert_error(InvalidText, "thing", thing, ask, word=thing)

    def test_all_letters_are_right(self):
        self.assertEqual(Stemmer(ALPHABET, "", []).stem(ALPHABET), ALPHABET)
