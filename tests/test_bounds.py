"""All answers come quickly at the bounds: books of twenty kinds, depth 60, a thousand cells, gap sums of depth 400."""

import time
import unittest

from samples import ALL_POSTURES, BENDS, PEANO, chain, copies, large_books, one_sequence_book, random_book
from squarethreads.books import backward, begun_at, is_book, least, postures, turned
from squarethreads.drawings import drawn, numbers_drawn
from squarethreads.fields import field_cell, field_number, first_leap_of, is_field, is_path_field, row_field
from squarethreads.growth import rule, sum_at, sums
from squarethreads.paths import ends, first_leap, is_path, is_path_at, is_ring, leaps
from squarethreads.threads import cell_of, first_cell, kinds_on, last_cell, number_of, thread, whole

# A call takes some thousandths of a second; this leaves much room for a slow machine.
SECONDS = 2


class Bounds(unittest.TestCase):
    def setUp(self):
        same = [(x, y) for y in range(3) for x in range(3)]
        self.books = large_books() + [chain(3, 20, same), one_sequence_book(0, 3, 20), one_sequence_book(0, 2, 20)]
        self.books += [copies(BENDS, 5), copies(PEANO, 5)]

    def quickly(self, function, *values):
        begun = time.process_time()
        answer = function(*values)
        self.assertLess(time.process_time() - begun, SECONDS, function.__name__)
        return answer

    def test_books(self):
        for book in self.books:
            self.assertIs(self.quickly(is_book, book), True)
            self.quickly(least, book)
            self.quickly(backward, book)
            self.quickly(postures, book)
            for kind in range(20):
                self.quickly(begun_at, book, kind)
            for posture in ALL_POSTURES:
                self.quickly(turned, book, posture)

    def test_threads(self):
        for book in self.books:
            size = book[0] ** 60
            for number in (0, size * size // 3, size * size - 1):
                cell = self.quickly(cell_of, book, 60, number)
                self.assertEqual(self.quickly(number_of, book, 60, cell), number)
                self.assertEqual(len(self.quickly(kinds_on, book, 60, number)), 61)
            self.assertEqual(len(self.quickly(thread, book, 60, size // 2, 1000)), 1000)
            self.assertEqual(self.quickly(first_cell, book, 60), cell_of(book, 60, 0))
            self.assertEqual(self.quickly(last_cell, book, 60), cell_of(book, 60, size * size - 1))
            self.assertEqual(len(self.quickly(whole, book, 4)), book[0] ** 8)

    def test_paths(self):
        for book in self.books:
            self.quickly(is_path, book)
            self.quickly(first_leap, book)
            self.quickly(is_ring, book)
            self.quickly(is_path_at, book, 60)
            self.quickly(leaps, book, 60)
            for kind in range(20):
                self.quickly(ends, book, kind)

    def test_fields(self):
        for book in self.books:
            for field in (self.quickly(row_field, book, 0, 12), (book, tuple((20, 20 - k, k) for k in range(12)))):
                self.assertIs(self.quickly(is_field, field), True)
                self.quickly(is_path_field, field)
                self.quickly(first_leap_of, field)
                for number in (0, book[0] ** 120 * 5 // 3, book[0] ** 120 * 12 - 1):
                    cell = self.quickly(field_cell, field, 60, number)
                    self.assertEqual(self.quickly(field_number, field, 60, cell), number)

    def test_drawings(self):
        for book in self.books:
            self.assertEqual(len(self.quickly(drawn, book, 4)), 2 * book[0] ** 4 - 1)
            self.assertEqual(len(self.quickly(numbers_drawn, book, 4)), book[0] ** 4)

    def test_growth(self):
        for b in (2, 3):
            for seed in range(4):
                for many in (4, 6):
                    book = random_book(seed, b, many)
                    self.quickly(sums, book, 30)
                    self.quickly(rule, book)
                    self.quickly(sum_at, book, 400)


if __name__ == "__main__":
    unittest.main()
