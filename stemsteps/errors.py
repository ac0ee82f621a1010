"""The errors of the package. The fields of each hold what it was made with, whatever that is."""


class StemError(ValueError):
    """Every error that the package raises is one of these."""


class InvalidLetters(StemError):
    """The letters of a stemmer are no text of different letters from a to z, at least one."""

    def __init__(self, thing):
        self.thing = thing


class InvalidVowels(StemError):
    """The vowels of a stemmer are no text of different letters out of its letters."""

    def __init__(self, thing):
        self.thing = thing


class InvalidText(StemError):
    """A value is not a text, or not one of the letters that it may have."""

    def __init__(self, thing):
        self.thing = thing


class InvalidConditions(StemError):
    """The item at a place is no condition; the place None tells that the whole value is wrong."""

    def __init__(self, place):
        self.place = place


class InvalidRules(StemError):
    """The item at a place is no rule that fits; the place None tells that there is no list."""

    def __init__(self, place):
        self.place = place


class InvalidMode(StemError):
    """The mode of a step is neither "longest" nor "first"."""

    def __init__(self, thing):
        self.thing = thing


class SameEnding(StemError):
    """Two rules of a step in the mode "longest" have the same ending."""

    def __init__(self, ending):
        self.ending = ending


class InvalidSteps(StemError):
    """The item at a place is no step that fits; the place None tells that there is no list."""

    def __init__(self, place):
        self.place = place


class InvalidExceptions(StemError):
    """A word is no exception, or its stem is none; the word None also tells that there is no dict."""

    def __init__(self, word):
        self.word = word


class InvalidStemmer(StemError):
    """A value is not a stemmer."""

    def __init__(self, thing):
        self.thing = thing


class InvalidNumber(StemError):
    """A value is not a number of the kind that is wanted."""

    def __init__(self, thing):
        self.thing = thing


class InvalidQuestion(StemError):
    """A value is not the name of a question."""

    def __init__(self, thing):
        self.thing = thing


class InvalidPairs(StemError):
    """The item at a place is no pair of words; the place None tells that there is no list."""

    def __init__(self, place):
        self.place = place


class UnlikeLetters(StemError):
    """Two stemmers do not have the same letters, in their order, and the same vowels."""


class TooLarge(StemError):
    """A question would have to look at this many words, which is too many."""

    def __init__(self, count):
        self.count = count


class Endless(StemError):
    """Endlessly many words are touched; this one is the least that shows it."""

    def __init__(self, word):
        self.word = word


class NoWord(StemError):
    """No word has this text as its stem."""

    def __init__(self, text):
        self.text = text


class Parted(StemError):
    """Two words have one stem by one stemmer and unlike stems by the other."""

    def __init__(self, first_word, second_word):
        self.first_word = first_word
        self.second_word = second_word
