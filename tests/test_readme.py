"""The examples in README.md are true."""

import doctest
import pathlib
import unittest

README = pathlib.Path(__file__).resolve().parent.parent / "README.md"


class Examples(unittest.TestCase):
    def test_examples(self):
        # A fence right behind an answer would be taken for a part of the answer.
        text = README.read_text().replace("```", "")
        examples = doctest.DocTestParser().get_doctest(text, {}, "README.md", str(README), 0)
        runner = doctest.DocTestRunner()
        runner.run(examples)
        self.assertEqual(runner.summarize()[0], 0)
        self.assertGreater(len(examples.examples), 10)


if __name__ == "__main__":
    unittest.main()
