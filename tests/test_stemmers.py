import unittest

from stemsteps.errors import InvalidExceptions, InvalidLetters, InvalidSteps, InvalidVowels
from stemsteps.rules import Rule, Step
from stemsteps.stemmers import Stemmer
from tests.samples import ALPHABET, porter
from tests.things import ErrorTests, alike, not_lists, not_texts, odd_things

STEP = Step([Rule("ab", "c", conditions=[("ends", ("a", ""))]), Rule("b", "")])


class StemmerProperties(unittest.TestCase):
    def test_ordinary(self):
        stemmer = Stemmer("abc", "a", [STEP], exceptions={"abc": "c"})
        self.assertEqual(stemmer.letters, "abc")
        self.assertEqual(stemmer.vowels, "a")
        self.assertEqual(stemmer.steps, (STEP,))
        self.assertEqual(stemmer.exceptions, {"abc": "c"})

    def test_letters_in_any_order(self):
        for letters in ("abc", "cab", "zcxbay", ALPHABET, ALPHABET[::-1], "q"):
            self.assertEqual(Stemmer(letters, "", []).letters, letters)

    def test_vowels_stand_in_the_order_of_the_letters(self):
        for letters, vowels, ordered in [
            ("abcde", "ea", "ae"), ("edcba", "ae", "ea"), ("cab", "abc", "cab"), ("cab", "", ""), ("q", "q", "q"),
            (ALPHABET, "uoiea", "aeiou"), (ALPHABET[::-1], "aeiou", "uoiea"),
        ]:
            self.assertEqual(Stemmer(letters, vowels, []).vowels, ordered)

    def test_steps_are_a_tuple(self):
        self.assertEqual(Stemmer("abc", "a", [STEP, STEP]).steps, (STEP, STEP))
        self.assertEqual(Stemmer("abc", "a", (STEP,)).steps, (STEP,))
        for steps in ([], ()):
            self.assertTrue(alike(Stemmer("abc", "a", steps).steps, ()))

    def test_no_exceptions(self):
        self.assertTrue(alike(Stemmer("abc", "a", []).exceptions, {}))
        self.assertTrue(alike(Stemmer("abc", "a", [], exceptions=None).exceptions, {}))
        self.assertTrue(alike(Stemmer("abc", "a", [], exceptions={}).exceptions, {}))

    def test_exceptions_of_all_forms(self):
        given = {"cab": "cab", "a": "", "b": "abcabc", "bb": "a"}
        self.assertEqual(Stemmer("abc", "a", [], exceptions=given).exceptions, given)

    def test_what_was_handed_in_changes_afterwards(self):
        steps, exceptions = [STEP], {"abc": "c"}
        stemmer = Stemmer("abc", "a", steps, exceptions=exceptions)
        steps.append(Step([]))
        steps[0] = Step([Rule("a", "")])
        exceptions["abc"] = "b"
        exceptions["bb"] = "a"
        self.assertEqual(stemmer.steps, (STEP,))
        self.assertEqual(stemmer.exceptions, {"abc": "c"})
        self.assertEqual([stemmer.stem("abc"), stemmer.stem("bb"), stemmer.trace("abc")], ["c", "b", []])

    def test_properties_are_changed_after_they_were_read(self):
        stemmer = Stemmer("abc", "a", [STEP], exceptions={"abc": "c"})
        read = stemmer.exceptions
        read["abc"] = "b"
        read["bb"] = "a"
        self.assertEqual(stemmer.exceptions, {"abc": "c"})
        self.assertIsNot(stemmer.exceptions, stemmer.exceptions)
        self.assertEqual([stemmer.stem("abc"), stemmer.stem("bb")], ["c", "b"])
        self.assertEqual(stemmer.bounds(), (2, 1, 0, 0, 3, 1))

    def test_arguments_are_not_changed(self):
        steps, exceptions = [STEP], {"abc": "c"}
        Stemmer("abc", "a", steps, exceptions=exceptions).stem("ab")
        self.assertEqual((steps, exceptions), ([STEP], {"abc": "c"}))

    def test_by_name(self):
        stemmer = Stemmer(exceptions={"a": "b"}, steps=[STEP], vowels="c", letters="bca")
        self.assertEqual((stemmer.letters, stemmer.vowels), ("bca", "c"))
        self.assertEqual((stemmer.steps, stemmer.exceptions), ((STEP,), {"a": "b"}))

    def test_exceptions_only_by_name(self):
        with self.assertRaises(TypeError):
            Stemmer("abc", "a", [STEP], {})


class LettersAndVowels(unittest.TestCase, ErrorTests):
    def test_letters_that_are_none(self):
        wrong = ["", "aa", "aba", "abcb", "A", "aB", "a1", "a b", "ab\n", "\u00e4", "a-", "`", "{", ALPHABET + "a"]
        for thing in not_texts() + wrong:
            self.assert_error(InvalidLetters, "thing", thing, Stemmer, thing, "", [])

    def test_vowels_that_are_none(self):
        wrong = ["d", "ad", "aa", "aba", "abca", "A", "a ", " ", "\u00e4", "vowel", "a\n"]
        for thing in not_texts() + wrong:
            self.assert_error(InvalidVowels, "thing", thing, Stemmer, "abc", thing, [])


class StepsOfAStemmer(unittest.TestCase, ErrorTests):
    def test_steps_that_are_no_list(self):
        for thing in not_lists():
            self.assert_error(InvalidSteps, "place", None, Stemmer, "abc", "a", thing)

    def test_the_first_wrong_place(self):
        for thing in odd_things() + [Rule("a", "b"), [STEP], Step]:
            if not isinstance(thing, Step):
                for place in range(3):
                    steps = [STEP] * place + [thing, STEP, None, thing]
                    self.assert_error(InvalidSteps, "place", place, Stemmer, "abc", "a", steps)
                    self.assert_error(InvalidSteps, "place", place, Stemmer, "abc", "a", tuple(steps))

    def test_signs_that_are_none_of_the_letters(self):
        for rule in [
            Rule("d", "a"), Rule("ad", "a"), Rule("da", "a"), Rule("a", "d"), Rule("a", "ad"), Rule("a", "bda"),
            Rule("a", "b", conditions=[("ends", ("d",))]),
            Rule("a", "b", conditions=[("vowel",), ("ends", ("a", "b", "bcd"))]),
            Rule("a", "b", conditions=[("not", ("ends", ("d",)))]),
            Rule("a", "b", conditions=[("not", ("ends", ())), ("not", ("ends", ("a", "ad")))]),
            Rule("a", "b", conditions=[("ends", ("A",))]),
            Rule("a", "b", conditions=[("ends", (" ",))]),
            Rule("a", "b", conditions=[("ends", ("ab\n",))]),
            Rule("a", "b", conditions=[("not", ("ends", ("\u00e4",)))]),
        ]:
            for rules in ([rule], [Rule("b", "c"), rule], [rule, Rule("b", "c")]):
                wrong = Step(rules, mode="first")
                self.assert_error(InvalidSteps, "place", 0, Stemmer, "abc", "a", [wrong])
                self.assert_error(InvalidSteps, "place", 1, Stemmer, "abc", "a", [STEP, wrong, wrong])
                self.assert_error(InvalidSteps, "place", 2, Stemmer, "abc", "a", [STEP, STEP, wrong, None])

    def test_the_signs_of_a_shape_need_not_be_letters(self):
        step = Step([Rule("a", "b", conditions=[("shape", "vo"), ("not", ("shape", "o"))])])
        self.assertEqual(Stemmer("abc", "a", [step]).steps, (step,))

    def test_texts_that_are_empty(self):
        step = Step([Rule("a", "", conditions=[("ends", ("",)), ("ends", ()), ("not", ("ends", ("",)))])])
        self.assertEqual(Stemmer("abc", "a", [step]).steps, (step,))

    def test_all_letters_may_stand_in_the_texts(self):
        step = Step([Rule("abc", "cba", conditions=[("ends", ("abc", "cab")), ("not", ("ends", ("bca",)))])])
        self.assertEqual(Stemmer("abc", "a", [step]).steps, (step,))


class ExceptionsOfAStemmer(unittest.TestCase, ErrorTests):
    def test_exceptions_that_are_no_dict(self):
        for thing in odd_things() + [[("a", "b")], (("a", "b"),)]:
            if thing is not None and not isinstance(thing, dict):
                self.assert_error(InvalidExceptions, "word", None, Stemmer, "abc", "a", [], exceptions=thing)

    def test_keys_that_are_no_words(self):
        words = ["", "d", "ad", "A", "a b", "a\n", " ", None, True, False, 0, 1, 10 ** 99, (), ("a",), ("a", (1, None))]
        for word in words:
            for given in ({word: "a"}, {"a": "b", "c": "", word: "a", "d": "a", None: "a"}):
                self.assert_error(InvalidExceptions, "word", word, Stemmer, "abc", "a", [], exceptions=given)

    def test_values_that_are_no_texts_of_the_letters(self):
        for stem in not_texts() + ["d", "ad", "A", "a b", "a\n", " ", "\u00e4"]:
            for given in ({"b": stem}, {"c": "a", "b": stem, "a": stem, "": "a"}):
                self.assert_error(InvalidExceptions, "word", "b", Stemmer, "abc", "a", [], exceptions=given)

    def test_the_first_wrong_key_as_they_are_put_in(self):
        for given, word in [
            ({"cc": "a", "zz": "a", "x": "a"}, "zz"), ({"x": "a", "zz": "a"}, "x"), ({"c": "x", "a": None}, "c"),
            ({"a": None, "c": "x"}, "a"), ({"c": "a", "b": 1, "": "a"}, "b"), ({"": "a", "b": 1}, ""),
        ]:
            self.assert_error(InvalidExceptions, "word", word, Stemmer, "abc", "a", [], exceptions=given)


class SeveralWrongArguments(unittest.TestCase, ErrorTests):
    def test_the_first_in_the_order_of_the_line(self):
        self.assert_error(InvalidLetters, "thing", 1, Stemmer, 1, 2, 3, exceptions=4)
        self.assert_error(InvalidLetters, "thing", 1, Stemmer, exceptions=4, steps=3, vowels=2, letters=1)
        self.assert_error(InvalidVowels, "thing", 2, Stemmer, "abc", 2, 3, exceptions=4)
        wrong = [Step([Rule("d", "")])]
        self.assert_error(InvalidVowels, "thing", "d", Stemmer, "abc", "d", wrong, exceptions={"d": ""})
        self.assert_error(InvalidSteps, "place", None, Stemmer, "abc", "a", 3, exceptions=4)
        self.assert_error(InvalidSteps, "place", 0, Stemmer, "abc", "a", [3], exceptions={"d": ""})
        self.assert_error(InvalidSteps, "place", 0, Stemmer, "abc", "a", wrong, exceptions=[])


class StemmerEquality(unittest.TestCase):
    def test_like_ones(self):
        self.assertTrue(porter() == porter())
        self.assertFalse(porter() != porter())
        self.assertTrue(Stemmer("abc", "ca", [STEP]) == Stemmer("abc", "ac", (STEP,), exceptions={}))

    def test_the_order_of_the_exceptions_does_not_count(self):
        one = Stemmer("abc", "a", [], exceptions={"a": "b", "c": "a"})
        self.assertTrue(one == Stemmer("abc", "a", [], exceptions={"c": "a", "a": "b"}))

    def test_unlike_ones(self):
        stemmer = Stemmer("abc", "a", [STEP], exceptions={"abc": "c"})
        unlike = [
            Stemmer("acb", "a", [STEP], exceptions={"abc": "c"}),
            Stemmer("abcd", "a", [STEP], exceptions={"abc": "c"}),
            Stemmer("abc", "b", [STEP], exceptions={"abc": "c"}),
            Stemmer("abc", "ab", [STEP], exceptions={"abc": "c"}),
            Stemmer("abc", "a", [STEP, STEP], exceptions={"abc": "c"}),
            Stemmer("abc", "a", [Step(STEP.rules, mode="first")], exceptions={"abc": "c"}),
            Stemmer("abc", "a", [STEP], exceptions={"abc": "b"}),
            Stemmer("abc", "a", [STEP], exceptions={"ab": "c"}),
            Stemmer("abc", "a", [STEP]),
        ]
        for other in unlike:
            self.assertFalse(stemmer == other)
            self.assertTrue(stemmer != other)

    def test_other_things(self):
        stemmer = Stemmer("abc", "a", [STEP])
        for thing in odd_things() + [STEP, [STEP], (STEP,), "abc", Stemmer, ("abc", "a", (STEP,), {})]:
            self.assertFalse(stemmer == thing)
            self.assertFalse(thing == stemmer)
            self.assertTrue(stemmer != thing)
