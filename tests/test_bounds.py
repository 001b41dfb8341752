"""All answers come quickly at the bounds: books of twenty kinds, depth 60, a thousand cells."""

import time
import unittest

from samples import ALL_POSTURES, chain, large_books, one_sequence_book
from squarethreads.books import backward, begun_at, is_book, least, postures, turned
from squarethreads.threads import cell_of, first_cell, kinds_on, last_cell, number_of, thread, whole

# A call takes some thousandths of a second; this leaves much room for a slow machine.
SECONDS = 2


class Bounds(unittest.TestCase):
    def setUp(self):
        same = [(x, y) for y in range(3) for x in range(3)]
        self.books = large_books() + [chain(3, 20, same), one_sequence_book(0, 3, 20), one_sequence_book(0, 2, 20)]

    def quickly(self, function, *values):
        begun = time.process_time()
        answer = function(*values)
        self.assertLess(time.process_time() - begun, SECONDS, function.__name__)
        return answer

    def test_books(self):
        for book in self.books:
            self.assertIs(self.quickly(is_book, book), True)
            self.quickly(least, book)
            self.quickly(backward, book)
            self.quickly(postures, book)
            for kind in range(20):
                self.quickly(begun_at, book, kind)
            for posture in ALL_POSTURES:
                self.quickly(turned, book, posture)

    def test_threads(self):
        for book in self.books:
            size = book[0] ** 60
            for number in (0, size * size // 3, size * size - 1):
                cell = self.quickly(cell_of, book, 60, number)
                self.assertEqual(self.quickly(number_of, book, 60, cell), number)
                self.assertEqual(len(self.quickly(kinds_on, book, 60, number)), 61)
            self.assertEqual(len(self.quickly(thread, book, 60, size // 2, 1000)), 1000)
            self.assertEqual(self.quickly(first_cell, book, 60), cell_of(book, 60, 0))
            self.assertEqual(self.quickly(last_cell, book, 60), cell_of(book, 60, size * size - 1))
            self.assertEqual(len(self.quickly(whole, book, 4)), book[0] ** 8)


if __name__ == "__main__":
    unittest.main()
