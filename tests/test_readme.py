"""The example of the README is right."""

import doctest
import pathlib
import unittest


class ReadmeTest(unittest.TestCase):
    def test_example(self):
        path = pathlib.Path(__file__).resolve().parent.parent / "README.md"
        text = path.read_text().replace("\n```", "\n\n")
        test = doctest.DocTestParser().get_doctest(text, {}, "README", str(path), 0)
        self.assertGreater(len(test.examples), 0)
        results = doctest.DocTestRunner(verbose=False).run(test)
        self.assertEqual(results.failed, 0)
