"""The examples of the document, as printed."""

import doctest
import unittest

BOOKS = """
>>> from squarethreads.books import backward, begun_at, is_book, least, turned
>>> rows = (2, (((0, 0, 0), (1, 0, 0), (0, 1, 0), (1, 1, 0)),))
>>> bends = (2, (((0, 0, 1), (0, 1, 0), (1, 1, 0), (1, 0, 2)), ((0, 0, 0), (1, 0, 1), (1, 1, 1), (0, 1, 3)), ((1, 1, 3), (0, 1, 2), (0, 0, 2), (1, 0, 0)), ((1, 1, 2), (1, 0, 3), (0, 0, 3), (0, 1, 1))))
>>> [is_book(rows), is_book(bends), backward(rows), turned(rows, (1, 0))]
[True, True, (2, (((1, 1, 0), (0, 1, 0), (1, 0, 0), (0, 0, 0)),)), (2, (((1, 0, 0), (1, 1, 0), (0, 0, 0), (0, 1, 0)),))]
"""
THREADS = """
>>> from squarethreads.threads import cell_of, kinds_on, last_cell, number_of, whole
>>> [number_of(rows, 3, (5, 2)), cell_of(rows, 60, 3), whole(bends, 1), last_cell(bends, 5), kinds_on(bends, 2, 13)]
[25, (1, 1), [(0, 0), (0, 1), (1, 1), (1, 0)], (31, 0), (0, 2, 2)]
"""


class Examples(unittest.TestCase):
    def run_examples(self, text, names):
        """Run a section's examples; the names that they bind stay for the next section."""
        test = doctest.DocTestParser().get_doctest(text, names, "examples", None, 0)
        self.assertGreater(len(test.examples), 1)
        said = []
        failed, _ = doctest.DocTestRunner(verbose=False).run(test, out=said.append, clear_globs=False)
        self.assertEqual(failed, 0, "".join(said))
        return test.globs

    def test_books_then_threads(self):
        names = self.run_examples(BOOKS, {})
        self.run_examples(THREADS, names)


if __name__ == "__main__":
    unittest.main()
