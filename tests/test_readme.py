import doctest
import pathlib
import unittest

README = pathlib.Path(__file__).resolve().parent.parent / "README.md"


class TestReadme(unittest.TestCase):
    def test_examples(self):
        # The line that closes an example in Markdown would count as a line of its output.
        text = README.read_text().replace("```", "")
        examples = doctest.DocTestParser().get_doctest(text, {}, "README.md", str(README), 0)
        result = doctest.DocTestRunner().run(examples)
        self.assertGreater(result.attempted, 10)
        self.assertEqual(result.failed, 0)


if __name__ == "__main__":
    unittest.main()
