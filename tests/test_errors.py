import unittest

from stemsteps import errors
from stemsteps.errors import StemError
from tests.things import alike, odd_things

FIELDS = {
    "InvalidLetters": ["thing"],
    "InvalidVowels": ["thing"],
    "InvalidText": ["thing"],
    "InvalidConditions": ["place"],
    "InvalidRules": ["place"],
    "InvalidMode": ["thing"],
    "SameEnding": ["ending"],
    "InvalidSteps": ["place"],
    "InvalidExceptions": ["word"],
    "InvalidStemmer": ["thing"],
    "InvalidNumber": ["thing"],
    "InvalidQuestion": ["thing"],
    "InvalidPairs": ["place"],
    "UnlikeLetters": [],
    "TooLarge": ["count"],
    "Endless": ["word"],
    "NoWord": ["text"],
    "Parted": ["first_word", "second_word"],
}


class ErrorClasses(unittest.TestCase):
    def test_stem_error_is_directly_beneath_value_error(self):
        self.assertEqual(StemError.__bases__, (ValueError,))
        self.assertEqual(StemError.__module__, "stemsteps.errors")

    def test_each_is_directly_beneath_stem_error(self):
        for name in FIELDS:
            kind = getattr(errors, name)
            self.assertEqual(kind.__bases__, (StemError,), name)
            self.assertEqual(kind.__module__, "stemsteps.errors", name)
            self.assertEqual(kind.__name__, name)

    def test_all_are_different_classes(self):
        self.assertEqual(len({getattr(errors, name) for name in FIELDS}), len(FIELDS))

    def test_each_can_be_raised_and_caught_by_its_name(self):
        for name, fields in FIELDS.items():
            kind = getattr(errors, name)
            for above in (kind, StemError, ValueError):
                with self.assertRaises(above):
                    raise kind(*fields)


class ErrorFields(unittest.TestCase):
    def test_by_position_with_anything_in_them(self):
        for name, fields in FIELDS.items():
            for thing in odd_things():
                given = [thing, ["another", thing]][:len(fields)]
                error = getattr(errors, name)(*given)
                held = [getattr(error, field) for field in fields]
                self.assertTrue(alike(held, given), name)

    def test_by_name_with_anything_in_them(self):
        for name, fields in FIELDS.items():
            for thing in odd_things():
                named = dict(list(zip(fields, [thing, ["another", thing]]))[::-1])
                error = getattr(errors, name)(**named)
                held = {field: getattr(error, field) for field in named}
                self.assertTrue(alike(held, named), name)

    def test_by_position_and_by_name_together(self):
        error = errors.Parted("ab", second_word="ba")
        self.assertEqual((error.first_word, error.second_word), ("ab", "ba"))

    def test_another_number_of_fields_is_refused(self):
        for name, fields in FIELDS.items():
            if fields:
                with self.assertRaises(TypeError):
                    getattr(errors, name)(*fields[1:])
                with self.assertRaises(TypeError):
                    getattr(errors, name)(*fields, "more")

    def test_errors_of_one_class_do_not_share_fields(self):
        one, other = errors.InvalidText("a"), errors.InvalidText("b")
        self.assertEqual((one.thing, other.thing), ("a", "b"))
