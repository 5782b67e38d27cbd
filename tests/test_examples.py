"""The sessions of the document, as they stand there, and those of README.md."""

import doctest
import os
import unittest

SESSIONS = {
    "onecut.ratios": """
>>> from onecut.ratios import floor_of, is_ratio, lowest, plus, rest_of
>>> [lowest(4, -6), plus((1, 3), (1, 6)), floor_of((-1, 3)), rest_of((-1, 3)), is_ratio((2, 4))]
[(-2, 3), (1, 2), -1, (2, 3), False]
""",
    "onecut.spans": """
>>> from onecut.spans import arc, both, has, length, without
>>> arc((2, 3), (1, 3))
[((0, 1), (1, 3)), ((2, 3), (1, 1))]
>>> [without([((0, 1), (1, 1))], arc((2, 3), (1, 3))), length(arc((2, 3), (1, 3))), has(arc((2, 3), (1, 3)), (1, 3))]
[[((1, 3), (2, 3))], (2, 3), False]
""",
}


class Examples(unittest.TestCase):
    def run_session(self, text, names):
        test = doctest.DocTestParser().get_doctest(text, names, "session", None, 0)
        self.assertTrue(test.examples)
        runner = doctest.DocTestRunner()
        said = []
        runner.run(test, out=said.append, clear_globs=False)
        self.assertEqual(runner.failures, 0, "".join(said))
        return test.globs

    def test_document(self):
        # The sessions of the document continue each other.
        names = {}
        for title, text in SESSIONS.items():
            with self.subTest(title):
                names = self.run_session(text, names)

    def test_readme(self):
        path = os.path.join(os.path.dirname(os.path.abspath(__file__)), "..", "README.md")
        with open(path, encoding="ascii") as readme:
            self.run_session(readme.read().replace("```", ""), {})


if __name__ == "__main__":
    unittest.main()
