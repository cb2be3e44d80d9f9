"""The examples of the README do what they say."""

import doctest
import unittest
from pathlib import Path

README = Path(__file__).resolve().parent.parent / "README.md"


class ReadmeTest(unittest.TestCase):
    def test_examples(self):
        lines = README.read_text(encoding="utf-8").splitlines()
        text = "\n".join(["" if line.startswith("```") else line for line in lines])
        test = doctest.DocTestParser().get_doctest(text, {}, "README.md", str(README), 0)
        found = []
        result = doctest.DocTestRunner(verbose=False).run(test, out=found.append)
        self.assertGreater(result.attempted, 30)
        self.assertEqual("".join(found), "")

    def test_each_module_of_the_package_is_named(self):
        text = README.read_text(encoding="utf-8")
        for path in (README.parent / "lossway").glob("[a-z]*.py"):
            self.assertIn(f"`lossway.{path.stem}`", text)


if __name__ == "__main__":
    unittest.main()
