"""The words that have one stem, and what another stemmer makes of them."""

from stemsteps.checks import check_text
from stemsteps.errors import NoWord, Parted
from stemsteps.guards import check_like_letters, check_stemmer
from stemsteps.walkers import Walker


def words_of(stemmer, stem):
    """The list of all words with a stem, in order."""
    check_stemmer(stemmer)
    check_text(stem, stemmer.letters)
    return _group(stemmer, stem)


def carry(one, other, stem):
    """The stem by other of all words that have a stem by one."""
    check_stemmer(one)
    check_stemmer(other)
    check_text(stem, one.letters)
    check_like_letters(one, other)
    group = _group(one, stem)
    if len(group) == 0:
        raise NoWord(stem)
    walker = Walker(other)
    carried = walker.stem(group[0])
    for word in group:
        # All words ahead of the first unlike one are like the least one, which so makes the least pair.
        if walker.stem(word) != carried:
            raise Parted(group[0], word)
    return carried


def _group(stemmer, stem):
    """The words with a stem, in order: those that come to it by all steps, and exceptions."""
    exceptions = stemmer.exceptions
    texts = _texts_that_come_to(stemmer, stem)
    found = [word for word in texts if word != "" and word not in exceptions]
    told = [word for word in exceptions if exceptions[word] == stem]
    return _in_order(found + told, stemmer.letters)


def _texts_that_come_to(stemmer, stem):
    """All different texts that all steps, one after the other, bring to a stem."""
    walker = Walker(stemmer)
    steps = stemmer.steps
    texts = [stem]
    for place in reversed(range(len(steps))):
        ahead = []
        # No text stands twice in the list, as a step brings each text to one only.
        for text in texts:
            ahead.extend(_texts_ahead(walker, steps[place].rules, place, text))
        texts = ahead
    return texts


def _texts_ahead(walker, rules, place, text):
    """All different texts that the step at a place, with these rules, brings to a text."""
    possible = {text: True}
    for rule in rules:
        if text.endswith(rule.put):
            possible[text[:len(text) - len(rule.put)] + rule.ending] = True
    return [before for before in possible if walker.step_at(place, before)[1] == text]


def _in_order(texts, letters):
    """Different words in order: those with fewer letters first, then as the letters are ordered."""
    places = {letter: place for place, letter in enumerate(letters)}
    rows = [(len(word), [places[letter] for letter in word], word) for word in texts]
    return [row[2] for row in sorted(rows)]
