"""Each question of stemsteps.comparing, with answers that can be worked out by hand."""

import unittest

from stemsteps.comparing import alike, changed, done, exchanged, finer, needless, settled
from stemsteps.errors import Endless
from stemsteps.rules import Rule, Step
from stemsteps.stemmers import Stemmer
from tests.things import ErrorTests
from tests.things import alike as just_alike


def stemmer_of(*steps, letters="ab", vowels="a", mode="first", exceptions=None):
    """A stemmer with a step for each list of rules."""
    return Stemmer(letters, vowels, [Step(rules, mode=mode) for rules in steps], exceptions=exceptions)


def cut(*conditions):
    return Rule("b", "", conditions=conditions)


NOTHING = stemmer_of()


class Alike(unittest.TestCase):
    def test_the_least_word(self):
        for conditions, word in [
            ([], "b"), ([("vowel",)], "ab"), ([("not", ("vowel",))], "b"), ([("least", 2)], "aab"),
            ([("double",)], "bbb"), ([("shape", "vo")], "abb"), ([("runs", 1)], "abb"), ([("runs", 2)], "ababb"),
            ([("ends", ("ba", "bb"))], "bab"), ([("ends", ())], None), ([("double",), ("vowel",)], "abbb"),
            ([("least", 3), ("not", ("least", 3))], None), ([("not", ("runs", 0))], None),
        ]:
            self.assertEqual(alike(stemmer_of([cut(*conditions)]), NOTHING), word, conditions)
            self.assertEqual(alike(NOTHING, stemmer_of([cut(*conditions)])), word, conditions)

    def test_the_order_of_the_letters(self):
        rules = [Rule("b", "", conditions=[("least", 2)])]
        for letters, word in (("ab", "aab"), ("ba", "bbb")):
            self.assertEqual(alike(stemmer_of(rules, letters=letters), stemmer_of(letters=letters)), word)

    def test_alike_with_unlike_rules(self):
        both = stemmer_of([cut()])
        for other in [
            stemmer_of([cut(("vowel",)), cut(("not", ("vowel",)))]),
            stemmer_of([cut(), cut(), Rule("bb", "a")]),
            stemmer_of([cut()], mode="longest"),
            stemmer_of([], [cut()], []),
            stemmer_of([cut()], exceptions={"bb": "b", "a": "a"}),
            stemmer_of([cut(("runs", 1)), cut(("not", ("runs", 1)))]),
        ]:
            self.assertIsNone(alike(both, other))
            self.assertIsNone(alike(other, both))

    def test_exceptions(self):
        one = stemmer_of([cut()])
        self.assertEqual(alike(one, stemmer_of([cut()], exceptions={"bab": "b"})), "bab")
        self.assertEqual(alike(stemmer_of([cut()], exceptions={"aa": "", "b": ""}), one), "aa")

    def test_letters_that_no_rule_names(self):
        for vowels, letters, word in [("", "dcb", "ddb"), ("d", "dcab", "ccb"), ("dc", "dceafb", "eeb")]:
            one = stemmer_of([cut(("double",))], letters=letters, vowels=vowels)
            self.assertEqual(alike(one, stemmer_of(letters=letters, vowels=vowels)), word)
            one = stemmer_of([cut(("double",), ("not", ("ends", ("bb",))))], letters=letters, vowels=vowels)
            self.assertEqual(alike(one, stemmer_of(letters=letters, vowels=vowels)), word)

    def test_two_letters_that_no_rule_names(self):
        rules = [cut(("shape", "oo"), ("not", ("double",)), ("not", ("ends", ("b", "ba", "bc", "bd", "be"))))]
        one = stemmer_of(rules, letters="edcba", vowels="a")
        self.assertEqual(alike(one, stemmer_of(letters="edcba", vowels="a")), "edb")

    def test_itself(self):
        self.assertIsNone(alike(NOTHING, NOTHING))
        self.assertIsNone(alike(stemmer_of([cut(("vowel",))]), stemmer_of([cut(("vowel",))])))


class Settled(unittest.TestCase):
    def test_the_least_word(self):
        self.assertEqual(settled(stemmer_of([cut()])), "bb")
        self.assertEqual(settled(stemmer_of([cut(("vowel",))])), "abb")
        self.assertEqual(settled(stemmer_of([cut()], letters="ba")), "bb")
        self.assertIsNone(settled(stemmer_of([cut(("not", ("ends", ("b",))))])))
        self.assertIsNone(settled(stemmer_of([Rule("b", "a")])))
        self.assertEqual(settled(stemmer_of([Rule("b", "a"), Rule("a", "b")])), "a")
        self.assertEqual(settled(stemmer_of([Rule("b", "bb")])), "b")
        self.assertIsNone(settled(NOTHING))

    def test_a_stem_that_is_an_exception(self):
        once = [cut(("not", ("ends", ("b",))))]
        self.assertEqual(settled(stemmer_of(once, exceptions={"a": "aa"})), "ab")
        self.assertEqual(settled(stemmer_of(once, exceptions={"ab": "a", "a": "b"})), "a")
        self.assertEqual(settled(stemmer_of(once, exceptions={"ab": "a", "a": "ba"})), "ab")
        self.assertIsNone(settled(stemmer_of(once, exceptions={"ab": "a", "a": "a"})))
        self.assertEqual(settled(stemmer_of(once, exceptions={"aa": ""})), "aab")

    def test_a_stem_may_be_empty(self):
        self.assertIsNone(settled(stemmer_of([Rule("b", "", conditions=[("not", ("least", 1))])])))


class Exchanged(unittest.TestCase):
    def test_the_least_word(self):
        to_a, to_b = stemmer_of([Rule("b", "a")]), stemmer_of([Rule("a", "b")])
        self.assertEqual(exchanged(to_a, to_b), "a")
        self.assertEqual(exchanged(to_b, to_a), "a")
        self.assertEqual(exchanged(stemmer_of([Rule("ab", "b")]), stemmer_of([cut()])), "ab")
        self.assertEqual(exchanged(stemmer_of([Rule("aab", "")]), stemmer_of([cut(("least", 3))])), "aaab")

    def test_such_as_may_be(self):
        for one in (NOTHING, stemmer_of([cut()]), stemmer_of([Rule("b", "a"), Rule("a", "b")])):
            self.assertIsNone(exchanged(one, one))
            self.assertIsNone(exchanged(one, NOTHING))
            self.assertIsNone(exchanged(NOTHING, one))

    def test_exceptions(self):
        one = stemmer_of(exceptions={"a": "b"})
        self.assertEqual(exchanged(one, stemmer_of(exceptions={"b": "aa"})), "a")
        self.assertIsNone(exchanged(one, stemmer_of(exceptions={"ba": "bb"})))
        self.assertEqual(exchanged(one, stemmer_of(exceptions={"ba": "a"})), "ba")


class Done(unittest.TestCase):
    def test_the_least_word(self):
        stemmer = stemmer_of([Rule("b", "a"), Rule("bb", "")], [Rule("ba", "b", conditions=[("vowel",)])], [cut()])
        self.assertEqual([done(stemmer, 0, 0), done(stemmer, 1, 0), done(stemmer, 2, 0)], ["b", "aba", "aba"])
        self.assertIsNone(done(stemmer, 0, 1))

    def test_a_rule_that_is_hidden(self):
        rules = [cut(), Rule("ab", "", conditions=[("not", ("least", 0))]), Rule("aab", "")]
        stemmer = stemmer_of(rules, mode="longest")
        self.assertEqual([done(stemmer, 0, 0), done(stemmer, 0, 1), done(stemmer, 0, 2)], ["b", None, "aab"])
        covered = stemmer_of([cut(), Rule("ab", ""), Rule("bb", "")], letters="ab", mode="longest")
        self.assertEqual(done(covered, 0, 0), "b")
        self.assertIsNone(done(stemmer_of([cut(("least", 1)), Rule("ab", ""), Rule("bb", "")], mode="longest"), 0, 0))

    def test_an_exception_is_not_on_the_way(self):
        self.assertEqual(done(stemmer_of([cut()], exceptions={"b": "", "ab": "a"}), 0, 0), "bb")
        self.assertIsNone(done(stemmer_of([cut(("not", ("least", 1)))], exceptions={"b": ""}), 0, 0))

    def test_a_rule_that_puts_its_own_ending_is_done(self):
        stemmer = stemmer_of([Rule("b", "b"), cut()])
        self.assertEqual(done(stemmer, 0, 0), "b")
        self.assertIsNone(done(stemmer, 0, 1))

    def test_only_at_its_step(self):
        stemmer = stemmer_of([cut()], [cut()])
        self.assertEqual([done(stemmer, 0, 0), done(stemmer, 1, 0)], ["b", "bb"])


class Needless(unittest.TestCase):
    def test_the_least_word(self):
        stemmer = stemmer_of([cut(("vowel",)), cut(("least", 2)), Rule("b", "a")])
        self.assertEqual([needless(stemmer, 0, number) for number in range(3)], ["ab", "bbb", "b"])

    def test_needless_ones(self):
        self.assertIsNone(needless(stemmer_of([cut(), cut()]), 0, 0))
        self.assertIsNone(needless(stemmer_of([cut(), cut()]), 0, 1))
        self.assertIsNone(needless(stemmer_of([Rule("b", "b")]), 0, 0))
        self.assertIsNone(needless(stemmer_of([Rule("a", "b")], [Rule("b", "a")]), 0, 0))
        self.assertIsNone(needless(stemmer_of([cut(("not", ("least", 1)))], exceptions={"b": ""}), 0, 0))

    def test_a_rule_that_does_nothing_but_hide_another_one(self):
        stemmer = stemmer_of([cut(), Rule("ab", "ab")], mode="longest")
        self.assertEqual(needless(stemmer, 0, 1), "ab")


class Finer(unittest.TestCase):
    def test_the_least_pair(self):
        self.assertTrue(just_alike(finer(stemmer_of([Rule("b", "a")]), NOTHING), ("a", "b")))
        one = stemmer_of([Rule("a", "b")], letters="ba")
        self.assertTrue(just_alike(finer(one, stemmer_of(letters="ba")), ("b", "a")))
        self.assertEqual(finer(stemmer_of([cut()]), NOTHING), ("a", "ab"))
        self.assertEqual(finer(stemmer_of([cut()]), stemmer_of([cut(("not", ("vowel",)))])), ("a", "ab"))
        self.assertEqual(finer(stemmer_of([cut()], [cut()]), stemmer_of([cut()])), ("b", "bb"))

    def test_the_earliest_y_and_with_it_the_earliest_x(self):
        # By one, b, ab and bb have one stem; by other, the first two of them have another one.
        one = stemmer_of(exceptions={"b": "aa", "ab": "aa", "bb": "aa", "aa": "a"})
        other = stemmer_of(exceptions={"b": "ba", "ab": "ba", "bb": "bb", "aa": "a"})
        self.assertEqual(finer(one, other), ("b", "bb"))
        other = stemmer_of(exceptions={"b": "ba", "ab": "bb", "bb": "ba", "aa": "b"})
        self.assertEqual(finer(one, other), ("a", "aa"))

    def test_finer_ones(self):
        one = stemmer_of([cut(("not", ("ends", ("b",))))])
        self.assertIsNone(finer(NOTHING, one))
        self.assertIsNone(finer(NOTHING, NOTHING))
        self.assertIsNone(finer(one, stemmer_of([cut(("not", ("ends", ("b",))))], [Rule("a", "")])))
        # The stems are others, but just the same words are joined.
        self.assertIsNone(finer(stemmer_of([Rule("a", ""), cut()]), stemmer_of([Rule("a", "b")])))
        self.assertIsNone(finer(stemmer_of([Rule("a", "b")]), stemmer_of([Rule("a", ""), cut()])))
        self.assertIsNone(finer(stemmer_of([Rule("b", "a")]), stemmer_of([Rule("a", "b")])))

    def test_the_empty_text_is_no_word(self):
        # The word b has the stem of the empty text, but no other word has it.
        self.assertIsNone(finer(stemmer_of([cut(("not", ("least", 1)))]), NOTHING))


class Changed(unittest.TestCase, ErrorTests):
    def test_all_touched_words(self):
        for condition, words in [
            (("not", ("least", 1)), ["b"]), (("not", ("least", 2)), ["b", "ab", "bb"]), (("ends", ()), []),
        ]:
            told = changed(stemmer_of([cut(condition)]), NOTHING)
            self.assertTrue(just_alike(told, words))
            self.assertTrue(just_alike(changed(NOTHING, stemmer_of([cut(condition)])), words))

    def test_the_order_of_the_letters(self):
        one = stemmer_of([cut(("not", ("least", 2)))], letters="ba")
        self.assertEqual(changed(one, stemmer_of(letters="ba")), ["b", "bb", "ab"])

    def test_endlessly_many(self):
        # The numbers D, k, c and X are told beside each, and L by them.
        for one, word in [
            (stemmer_of([cut()]), "ab"),                                    # 1, 0, 0, 0: 2
            (stemmer_of([cut(("vowel",))]), "ab"),                          # 1, 0, 0, 0: 2
            (stemmer_of([cut(("double",))]), "bbb"),                        # 1, 0, 2, 0: 3
            (stemmer_of([cut(("not", ("double",)))]), "aab"),               # 1, 0, 2, 0: 3
            (stemmer_of([cut(("least", 3))]), "aaab"),                      # 1, 3, 0, 0: 4
            (stemmer_of([cut(("runs", 1))]), "abb"),                        # 1, 0, 1, 0: 2
            (stemmer_of([cut(("runs", 2))]), "ababb"),                      # 1, 0, 1, 0: 2
            (stemmer_of([cut()], exceptions={"abab": "ab"}), "aaaaab"),     # 1, 0, 0, 4: 6
        ]:
            self.assert_error(Endless, "word", word, changed, one, NOTHING)
            self.assert_error(Endless, "word", word, changed, NOTHING, one)

    def test_exceptions(self):
        one = stemmer_of([cut()], exceptions={"bb": "bb", "ab": "a", "aa": "ab"})
        self.assertEqual(changed(one, stemmer_of([cut()])), ["aa", "bb"])

    def test_all_letters(self):
        for letters, vowels in (("edcbaf", "a"), ("bcde", ""), ("abe", "abe")):
            stemmer = stemmer_of([cut(("not", ("least", 2)))], letters=letters, vowels=vowels)
            wanted = ["b"] + [letter + "b" for letter in letters]
            self.assertEqual(changed(stemmer, stemmer_of(letters=letters, vowels=vowels)), wanted)

    def test_a_new_list(self):
        one = stemmer_of([cut(("not", ("least", 1)))])
        changed(one, NOTHING).append("more")
        self.assertEqual(changed(one, NOTHING), ["b"])


class Names(unittest.TestCase):
    def test_by_name(self):
        one, other = stemmer_of([Rule("b", "a")]), NOTHING
        self.assertEqual(alike(other=other, one=one), "b")
        self.assertIsNone(settled(stemmer=one))
        self.assertIsNone(exchanged(other=other, one=one))
        self.assertEqual(done(rule=0, step=0, stemmer=one), "b")
        self.assertEqual(needless(one, rule=0, step=0), "b")
        self.assertEqual(finer(other=other, one=one), ("a", "b"))
        self.assertIsNone(finer(other=one, one=other))
        self.assertEqual(changed(other=other, one=other), [])
