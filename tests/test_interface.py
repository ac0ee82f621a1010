"""That all names of the interface stand in their files, with their arguments."""

import importlib
import inspect
import unittest

import stemsteps

FUNCTIONS = {
    "stemsteps.conditions": {"is_condition": "(thing)", "holds": "(condition, rest, vowels)"},
    "stemsteps.counting": {
        "enough": "(one, other, question)", "count": "(one, other, question)", "words": "(letters, most)",
    },
    "stemsteps.comparing": {
        "alike": "(one, other)", "settled": "(stemmer)", "exchanged": "(one, other)", "done": "(stemmer, step, rule)",
        "needless": "(stemmer, step, rule)", "finer": "(one, other)", "changed": "(one, other)",
    },
    "stemsteps.groups": {"words_of": "(stemmer, stem)", "carry": "(one, other, stem)"},
    "stemsteps.choosing": {"fewest": "(letters, vowels, rules, joined, parted, *, mode='longest')"},
}
CLASSES = {
    "stemsteps.rules": {
        "Rule": ("(ending, put, *, conditions=())", {}, ["ending", "put", "conditions"]),
        "Step": ("(rules, *, mode='longest')", {}, ["rules", "mode"]),
    },
    "stemsteps.stemmers": {
        "Stemmer": (
            "(letters, vowels, steps, *, exceptions=None)",
            {"stem": "(self, word)", "trace": "(self, word)", "sight": "(self, word)", "bounds": "(self)",
             "without": "(self, step, rule)"},
            ["letters", "vowels", "steps", "exceptions"],
        ),
    },
}


class Interface(unittest.TestCase):
    def test_functions(self):
        for module, functions in FUNCTIONS.items():
            for name, line in functions.items():
                told = getattr(importlib.import_module(module), name)
                self.assertEqual(str(inspect.signature(told)), line)
                self.assertEqual(told.__module__, module)

    def test_classes(self):
        for module, classes in CLASSES.items():
            for name, (line, methods, properties) in classes.items():
                told = getattr(importlib.import_module(module), name)
                self.assertEqual(str(inspect.signature(told)), line)
                self.assertEqual(told.__module__, module)
                self.assertIn("__eq__", vars(told))
                for method, arguments in methods.items():
                    self.assertEqual(str(inspect.signature(vars(told)[method])), arguments)
                for name_of_property in properties:
                    self.assertIsInstance(vars(told)[name_of_property], property)

    def test_the_package_itself_imports_nothing(self):
        with open(stemsteps.__file__, encoding="utf-8") as file:
            self.assertNotIn("import", file.read())
