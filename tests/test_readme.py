"""The examples of README.md."""

import doctest
import unittest
from pathlib import Path


class Readme(unittest.TestCase):
    def test_examples(self):
        path = Path(__file__).resolve().parent.parent / "README.md"
        # The end of a fence is no output.
        text = path.read_text().replace("```", "")
        test = doctest.DocTestParser().get_doctest(text, {}, "README.md", str(path), 0)
        self.assertGreater(len(test.examples), 5)
        told = []
        doctest.DocTestRunner(verbose=False).run(test, out=told.append)
        self.assertEqual(told, [])


if __name__ == "__main__":
    unittest.main()
