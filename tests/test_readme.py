import doctest
import pathlib
import unittest

README = pathlib.Path(__file__).resolve().parent.parent / "README.md"


class ReadmeTest(unittest.TestCase):
    def test_what_it_shows(self):
        blocks = README.read_text(encoding="ascii").split("```")[1::2]
        shown = doctest.DocTestParser().get_doctest("\n".join(blocks), {}, "README.md", "README.md", 0)
        self.assertGreater(len(shown.examples), 10)
        results = doctest.DocTestRunner(verbose=False).run(shown)
        self.assertEqual(results.failed, 0)
