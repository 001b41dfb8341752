"""The examples of the document, as printed."""

import doctest
import unittest

BOOKS = """
>>> from squarethreads.books import backward, begun_at, is_book, least, turned
>>> rows = (2, (((0, 0, 0), (1, 0, 0), (0, 1, 0), (1, 1, 0)),))
>>> bends = (2, (((0, 0, 1), (0, 1, 0), (1, 1, 0), (1, 0, 2)), ((0, 0, 0), (1, 0, 1), (1, 1, 1), (0, 1, 3)), ((1, 1, 3), (0, 1, 2), (0, 0, 2), (1, 0, 0)), ((1, 1, 2), (1, 0, 3), (0, 0, 3), (0, 1, 1))))
>>> [is_book(rows), is_book(bends), backward(rows), turned(rows, (1, 0))]
[True, True, (2, (((1, 1, 0), (0, 1, 0), (1, 0, 0), (0, 0, 0)),)), (2, (((1, 0, 0), (1, 1, 0), (0, 0, 0), (0, 1, 0)),))]
"""
THREADS = """
>>> from squarethreads.threads import cell_of, kinds_on, last_cell, number_of, whole
>>> [number_of(rows, 3, (5, 2)), cell_of(rows, 60, 3), whole(bends, 1), last_cell(bends, 5), kinds_on(bends, 2, 13)]
[25, (1, 1), [(0, 0), (0, 1), (1, 1), (1, 0)], (31, 0), (0, 2, 2)]
"""
PATHS = """
>>> from squarethreads.paths import ends, first_leap, is_path, is_ring, leaps
>>> [is_path(bends), first_leap(rows), is_ring(bends), leaps(rows, 2), ends(bends, 0)]
[True, (1, 1), False, 7, ((0, 0), (1, 0))]
"""
GROWTH = """
>>> from squarethreads.growth import rule, sum_at, sums
>>> [sums(rows, 3), rule(rows), sum_at(rows, 3)]
[[0, 6, 60, 504], ((0, 6), (10, -16)), 504]
"""
FIELDS = """
>>> from squarethreads.fields import field_cell, field_number, first_leap_of, is_path_field, row_field
>>> two = row_field(bends, 0, 2)
>>> [field_number(two, 1, (2, 0)), field_cell(two, 1, 7), is_path_field(two), first_leap_of((bends, ((0, 0, 0), (0, 1, 0))))]
[4, (3, 0), True, (1, 3)]
"""
DRAWINGS = """
>>> from squarethreads.drawings import drawn, numbers_drawn
>>> [drawn(bends, 1), numbers_drawn(rows, 1)]
[['o-o', '| |', 'o o'], [[2, 3], [0, 1]]]
"""
SPANS = """
>>> from squarethreads.spans import at_most, how_many, last_in, next_in, spans
>>> [spans(rows, 2, (0, 0, 3, 2)), how_many(rows, 2, (1, 1, 3, 3)), next_in(rows, 2, (1, 1, 3, 3), 4), at_most(rows, 2, (1, 1, 3, 3), 2)]
[((0, 5), (6, 7)), 4, 6, ((3, 4), (6, 13))]
"""
GAPS = """
>>> from squarethreads.gaps import gap, gap_sum, greatest_gap, widest
>>> [gap(rows, 2, (1, 1), (2, 1)), greatest_gap(rows, 1), greatest_gap(rows, 2), widest(rows, 1), gap_sum(rows, 1)]
[3, 2, 6, ((0, 0), (0, 1)), 6]
"""
ALIKES = """
>>> from squarethreads.alikes import alike_in, same_kinds, unlike
>>> [unlike(rows, bends), unlike(rows, rows), same_kinds(bends)]
[(1, 1), None, ((0,), (1,), (2,), (3,))]
"""
TEXTS = """
>>> from squarethreads.texts import show_book, show_field, show_spans
>>> [show_book(rows), show_spans(((0, 5), (6, 7))), show_field((rows, ((1, 0, 0),)))]
['book 2\\n0 0 0, 1 0 0, 0 1 0, 1 1 0', '0-5 6-7', 'field 1 0 0\\nbook 2\\n0 0 0, 1 0 0, 0 1 0, 1 1 0']
"""
MAKERS = """
>>> from squarethreads.makers import goes_on, how_many_makes, is_picture, made
>>> cup = (2, ((0, 0), (0, 1), (1, 1), (1, 0)))
>>> [is_picture(cup), is_picture((2, ((0, 0), (1, 1), (0, 1), (1, 0)))), made(cup, ((0, 0, 0),) * 4)]
[True, False, (2, (((0, 0, 0), (0, 1, 0), (1, 1, 0), (1, 0, 0)),))]
>>> [goes_on(cup, ((0, 1, 0), (0, 0, 0), (0, 0, 0), (2, 1, 0))), goes_on(cup, ((0, 0, 0),) * 4)]
[True, False]
"""
STORES = """
>>> from squarethreads.stores import asked, in_box, leapt, nearest, store_of
>>> some = store_of(rows, 2, [(0, 0), (1, 1), (3, 1), (2, 2), (3, 3)])
>>> [some[2], in_box(some, (1, 1, 3, 3)), asked(some, (1, 1, 3, 3), 1), leapt(some, (1, 1, 3, 3)), nearest(some, (2, 1), 2)]
[(0, 3, 7, 12, 15), (3, 12), (2, 1), 5, (3, 7)]
"""


class Examples(unittest.TestCase):
    def run_examples(self, text, names):
        """Run a section's examples; the names that they bind stay for the next section."""
        test = doctest.DocTestParser().get_doctest(text, names, "examples", None, 0)
        self.assertGreater(len(test.examples), 1)
        said = []
        failed, _ = doctest.DocTestRunner(verbose=False).run(test, out=said.append, clear_globs=False)
        self.assertEqual(failed, 0, "".join(said))
        return test.globs

    def test_books_then_all_others(self):
        names = self.run_examples(BOOKS, {})
        for text in (THREADS, PATHS, SPANS, GAPS, ALIKES, GROWTH, FIELDS, MAKERS, STORES, DRAWINGS, TEXTS):
            names = self.run_examples(text, names)


if __name__ == "__main__":
    unittest.main()
