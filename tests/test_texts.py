"""texts.py: what books, cells, boxes, spans, fields and makes are as texts."""

import unittest

from samples import BENDS, PEANO, ROWS, large_books, random_book, small_books
from squarethreads.spans import spans
from squarethreads.texts import show_book, show_box, show_cell, show_field, show_make, show_spans

GREAT = 10 ** 40 - 1


class Texts(unittest.TestCase):
    def test_books(self):
        self.assertEqual(show_book(ROWS), "book 2\n0 0 0, 1 0 0, 0 1 0, 1 1 0")
        self.assertEqual(show_book(book=BENDS), (
            "book 2\n0 0 1, 0 1 0, 1 1 0, 1 0 2\n0 0 0, 1 0 1, 1 1 1, 0 1 3\n"
            "1 1 3, 0 1 2, 0 0 2, 1 0 0\n1 1 2, 1 0 3, 0 0 3, 0 1 1"))
        self.assertEqual(show_book((3, PEANO[1][:1])).split("\n")[0], "book 3")

    def test_books_line_by_line(self):
        for book in small_books() + large_books():
            first, *lines = show_book(book).split("\n")
            self.assertEqual(first, "book " + str(book[0]))
            self.assertEqual(len(lines), len(book[1]))
            for line, parts in zip(lines, book[1]):
                shown = ", ".join(str(x) + " " + str(y) + " " + str(kind) for x, y, kind in parts)
                self.assertEqual(line, shown)

    def test_cells_and_boxes(self):
        self.assertEqual(show_cell((0, 0)), "0 0")
        self.assertEqual(show_cell(cell=(12, 345)), "12 345")
        self.assertEqual(show_cell((GREAT, 7)), "9" * 40 + " 7")
        self.assertEqual(show_box((0, 1, 2, 30)), "0 1 2 30")
        self.assertEqual(show_box(box=(0, 0, 1, GREAT)), "0 0 1 " + "9" * 40)

    def test_spans(self):
        self.assertEqual(show_spans(((0, 5), (6, 7))), "0-5 6-7")
        self.assertEqual(show_spans(spans=((3, 4),)), "3-4")
        self.assertEqual(show_spans(((10 ** 39, GREAT),)), "1" + "0" * 39 + "-" + "9" * 40)
        told = spans(random_book(1, 3, 20), 6, (1, 1, 728, 728))
        self.assertEqual(show_spans(told).split(" "), [str(first) + "-" + str(behind) for first, behind in told])

    def test_fields(self):
        self.assertEqual(show_field((ROWS, ((1, 0, 0),))), "field 1 0 0\nbook 2\n0 0 0, 1 0 0, 0 1 0, 1 1 0")
        told = show_field(field=(BENDS, ((0, 20, 3), (4, 5, 0))))
        self.assertEqual(told, "field 0 20 3, 4 5 0\n" + show_book(BENDS))

    def test_makes(self):
        self.assertEqual(show_make(((0, 1, 0), (0, 0, 0), (3, 1, 1), (2, 0, 1))), "0 1 0, 0 0 0, 3 1 1, 2 0 1")
        self.assertEqual(show_make(make=((1, 0, 1),) * 9), "1 0 1" + ", 1 0 1" * 8)


if __name__ == "__main__":
    unittest.main()
