"""That .ci/run runs the tests of the project and those beside it, and fails if one fails."""

import pathlib
import shutil
import subprocess
import tempfile
import unittest

RUN = pathlib.Path(__file__).parent.parent / ".ci" / "run"
GOOD = "import unittest\n\n\nclass Good(unittest.TestCase):\n    def test_good(self):\n        self.assertTrue(True)\n"
BAD = GOOD.replace("assertTrue", "assertFalse")
IMPORTS = "from sample.module import NUMBER\n" + GOOD.replace("True)\n", "NUMBER == 3)\n")


class Run(unittest.TestCase):
    def run_with(self, own, shared):
        """The exit code in a project with these tests, beside a folder with those."""
        with tempfile.TemporaryDirectory() as folder:
            project = pathlib.Path(folder, "project")
            for name, text in {"sample/__init__.py": "", "sample/module.py": "NUMBER = 3\n", "tests/__init__.py": "",
                               **{f"tests/{name}": text for name, text in own.items()},
                               **{f"../shared/tests/{name}": text for name, text in shared.items()}}.items():
                path = pathlib.Path(project, name)
                project.mkdir(exist_ok=True)
                path.parent.mkdir(parents=True, exist_ok=True)
                path.write_text(text, encoding="utf-8")
            pathlib.Path(project, ".ci").mkdir()
            shutil.copy(RUN, pathlib.Path(project, ".ci", "run"))
            done = subprocess.run(["bash", str(pathlib.Path(project, ".ci", "run"))], capture_output=True, check=False)
            return done.returncode

    def test_all_good(self):
        self.assertEqual(self.run_with({"test_a.py": GOOD}, {}), 0)
        self.assertEqual(self.run_with({"test_a.py": GOOD}, {"README.md": "No test."}), 0)
        self.assertEqual(self.run_with({"test_a.py": GOOD, "test_b.py": IMPORTS}, {"test_c.py": IMPORTS}), 0)

    def test_one_of_the_project_fails(self):
        self.assertNotEqual(self.run_with({"test_a.py": GOOD, "test_b.py": BAD}, {"test_c.py": GOOD}), 0)

    def test_one_of_the_shared_tests_fails(self):
        self.assertNotEqual(self.run_with({"test_a.py": GOOD}, {"test_b.py": GOOD, "test_c.py": BAD}), 0)
        self.assertNotEqual(self.run_with({"test_a.py": GOOD}, {"more/test_b.py": BAD, "test_c.py": GOOD}), 0)
        self.assertNotEqual(self.run_with({"test_a.py": GOOD}, {"test_b.py": "import no_such_module\n"}), 0)
