import doctest
import os
import unittest

TESTS = os.path.dirname(os.path.abspath(__file__))
EXAMPLES = os.path.join(TESTS, "examples")
README = os.path.join(os.path.dirname(TESTS), "README.md")


class ExamplesTest(unittest.TestCase):
    def check(self, path):
        """Runs the examples of a file, where fences do not count as output."""
        with open(path, encoding="utf-8") as file:
            text = "\n".join(line for line in file.read().split("\n") if not line.startswith("```"))
        example = doctest.DocTestParser().get_doctest(text, {}, path, path, 0)
        result = doctest.DocTestRunner().run(example)
        self.assertEqual(0, result.failed)
        self.assertLess(1, result.attempted)

    def test_examples_of_the_document(self):
        names = sorted(os.listdir(EXAMPLES))
        self.assertLess(1, len(names))
        for name in names:
            with self.subTest(name):
                self.check(os.path.join(EXAMPLES, name))

    def test_examples_of_the_readme(self):
        self.check(README)


if __name__ == "__main__":
    unittest.main()
