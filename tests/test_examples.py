"""The blocks of examples of the document, as printed: the rows of each file in examples/."""

import ast
import os
import unittest

FOLDER = os.path.join(os.path.dirname(os.path.abspath(__file__)), "examples")


def steps_of(text):
    """The tuples of a statement and of what has to be printed behind it, None if nothing."""
    found = []
    for line in text.splitlines():
        if line.startswith("# "):
            found[-1] = (found[-1][0], line[2:])
        else:
            found.append((line, None))
    return found


class ExamplesTest(unittest.TestCase):
    def check(self, name):
        with open(os.path.join(FOLDER, name + ".txt"), encoding="utf-8") as handle:
            steps = steps_of(handle.read())
        self.assertTrue(any(printed is not None for line, printed in steps))
        names = {}
        for line, printed in steps:
            if isinstance(ast.parse(line).body[0], ast.Expr):
                told = repr(eval(line, names))
                if printed is not None:
                    self.assertEqual(told, printed)
            else:
                self.assertIsNone(printed)
                exec(line, names)

    def test_disc(self):
        self.check("disc")

    def test_codes(self):
        self.check("codes")

    def test_lines(self):
        self.check("lines")

    def test_pages(self):
        self.check("pages")

    def test_waits(self):
        self.check("waits")

    def test_deeds(self):
        self.check("deeds")

    def test_backs(self):
        self.check("backs")

    def test_chain(self):
        self.check("chain")

    def test_opening(self):
        self.check("opening")

    def test_room(self):
        self.check("room")

    def test_versions(self):
        self.check("versions")

    def test_clearing(self):
        self.check("clearing")

    def test_tables(self):
        self.check("tables")

    def test_questions(self):
        self.check("questions")

    def test_transactions(self):
        self.check("transactions")

    def test_histories(self):
        self.check("histories")

    def test_weavings(self):
        self.check("weavings")

    def test_hangs(self):
        self.check("hangs")

    def test_differences(self):
        self.check("differences")

    def test_shelves(self):
        self.check("shelves")

    def test_store(self):
        self.check("store")

    def test_papers(self):
        self.check("papers")

    def test_scripts(self):
        self.check("scripts")


if __name__ == "__main__":
    unittest.main()
