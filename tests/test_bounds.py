"""All answers come quickly at the bounds: books of twenty kinds, depth 60, a thousand cells, gap sums of depth 400."""

import time
import unittest

from samples import (
    ALL_POSTURES, BENDS, PEANO, all_pictures, chain, copies, large_books, one_sequence_book, random_book, random_make,
)
from squarethreads.alikes import alike_in, same_kinds, unlike
from squarethreads.books import backward, begun_at, is_book, least, postures, turned
from squarethreads.consoles import Console
from squarethreads.drawings import drawn, numbers_drawn
from squarethreads.fields import field_cell, field_number, first_leap_of, is_field, is_path_field, row_field
from squarethreads.gaps import gap, gap_sum, greatest_gap, widest
from squarethreads.growth import rule, sum_at, sums
from squarethreads.makers import goes_on, how_many_makes, made, makes
from squarethreads.paths import ends, first_leap, is_path, is_path_at, is_ring, leaps
from squarethreads.readers import read_book, read_field, read_spans
from squarethreads.spans import at_most, cells_in, how_many, last_in, next_in, spans
from squarethreads.stores import asked, in_box, leapt, nearest, store_of
from squarethreads.texts import show_book, show_field, show_spans
from squarethreads.threads import cell_of, first_cell, kinds_on, last_cell, number_of, thread, whole

# A call takes some thousandths of a second; this leaves much room for a slow machine.
SECONDS = 2


class Bounds(unittest.TestCase):
    def setUp(self):
        same = [(x, y) for y in range(3) for x in range(3)]
        self.books = large_books() + [chain(3, 20, same), one_sequence_book(0, 3, 20), one_sequence_book(0, 2, 20)]
        self.books += [copies(BENDS, 5), copies(PEANO, 5)]

    def quickly(self, function, *values):
        begun = time.process_time()
        answer = function(*values)
        self.assertLess(time.process_time() - begun, SECONDS, function.__name__)
        return answer

    def test_books(self):
        for book in self.books:
            self.assertIs(self.quickly(is_book, book), True)
            self.quickly(least, book)
            self.quickly(backward, book)
            self.quickly(postures, book)
            for kind in range(20):
                self.quickly(begun_at, book, kind)
            for posture in ALL_POSTURES:
                self.quickly(turned, book, posture)

    def test_threads(self):
        for book in self.books:
            size = book[0] ** 60
            for number in (0, size * size // 3, size * size - 1):
                cell = self.quickly(cell_of, book, 60, number)
                self.assertEqual(self.quickly(number_of, book, 60, cell), number)
                self.assertEqual(len(self.quickly(kinds_on, book, 60, number)), 61)
            self.assertEqual(len(self.quickly(thread, book, 60, size // 2, 1000)), 1000)
            self.assertEqual(self.quickly(first_cell, book, 60), cell_of(book, 60, 0))
            self.assertEqual(self.quickly(last_cell, book, 60), cell_of(book, 60, size * size - 1))
            self.assertEqual(len(self.quickly(whole, book, 4)), book[0] ** 8)

    def test_paths(self):
        for book in self.books:
            self.quickly(is_path, book)
            self.quickly(first_leap, book)
            self.quickly(is_ring, book)
            self.quickly(is_path_at, book, 60)
            self.quickly(leaps, book, 60)
            for kind in range(20):
                self.quickly(ends, book, kind)

    def test_fields(self):
        for book in self.books:
            for field in (self.quickly(row_field, book, 0, 12), (book, tuple((20, 20 - k, k) for k in range(12)))):
                self.assertIs(self.quickly(is_field, field), True)
                self.quickly(is_path_field, field)
                self.quickly(first_leap_of, field)
                for number in (0, book[0] ** 120 * 5 // 3, book[0] ** 120 * 12 - 1):
                    cell = self.quickly(field_cell, field, 60, number)
                    self.assertEqual(self.quickly(field_number, field, 60, cell), number)

    def test_drawings(self):
        for book in self.books:
            self.assertEqual(len(self.quickly(drawn, book, 4)), 2 * book[0] ** 4 - 1)
            self.assertEqual(len(self.quickly(numbers_drawn, book, 4)), book[0] ** 4)

    def test_spans(self):
        for book in self.books:
            size = book[0] ** 6
            found = self.quickly(spans, book, 6, (1, 1, size - 1, size - 1))
            for most in (1, 40, len(found)):
                self.assertLessEqual(len(self.quickly(at_most, book, 6, (1, 1, size - 1, size - 1), most)), most)
            size = book[0] ** 60
            for box in ((1, 1, size - 1, size - 1), (size // 3, size // 5, size // 3 + 1, size // 2), (5, 7, 6, 8)):
                many = self.quickly(how_many, book, 60, box)
                self.assertTrue(0 < many <= self.quickly(cells_in, book, 60, box))
                for number in (0, size * size // 2, size * size - 1):
                    self.quickly(next_in, book, 60, box, number)
                    self.quickly(last_in, book, 60, box, number)

    def test_gaps(self):
        for book in self.books:
            size = book[0] ** 60
            greatest = self.quickly(greatest_gap, book, 60)
            self.assertLessEqual(self.quickly(gap, book, 60, (size // 2, 3), (size // 2 + 1, 3)), greatest)
            self.assertGreater(self.quickly(gap_sum, book, 60), greatest)
            self.quickly(widest, book, 4)

    def test_alikes(self):
        for book in self.books:
            for other in self.books:
                if book[0] == other[0]:
                    self.assertIs(self.quickly(unlike, book, other) is None, least(book) == least(other))
                    self.quickly(alike_in, book, other)
            self.quickly(same_kinds, book)

    def test_texts(self):
        for book in self.books:
            self.assertEqual(self.quickly(read_book, self.quickly(show_book, book)), book)
            field = (book, tuple((k, 10 ** 40 - 1, k) for k in range(20)))
            self.assertEqual(self.quickly(read_field, self.quickly(show_field, field)), field)
            size = book[0] ** 6
            found = spans(book, 6, (1, 1, size - 1, size - 1))
            self.assertEqual(self.quickly(read_spans, self.quickly(show_spans, found)), found)

    def test_makers(self):
        for picture in all_pictures(2) + all_pictures(3):
            for seed in range(3):
                make = random_make(seed, len(picture[1]))
                self.assertLessEqual(len(self.quickly(made, picture, make)[1]), 16)
                self.quickly(goes_on, picture, make)
            if picture[0] == 2:
                self.assertEqual(self.quickly(how_many_makes, picture), len(self.quickly(makes, picture)))

    def test_stores(self):
        for book in self.books:
            for d in (6, 60):
                size = book[0] ** d
                cells = [(k ** 40 % size, k ** 41 % size) for k in range(200)]
                store = self.quickly(store_of, book, d, cells * 3)
                for box in ((1, 1, size - 1, size - 1), (size // 3, 5, size // 2, size // 2)):
                    many = len(self.quickly(in_box, store, box))
                    self.assertTrue(many <= self.quickly(leapt, store, box) <= 200)
                    if d == 6:
                        self.quickly(asked, store, box, 3)
                self.quickly(nearest, store, (size // 3, size // 5), 200)

    def test_consoles(self):
        console = Console()
        for k in range(600):
            self.quickly(console.order, f"book a\n{show_book(self.books[k % len(self.books)])}")
        for k in range(600):
            self.quickly(console.order, "undo")
        self.assertEqual(console.names(), [])

    def test_growth(self):
        for b in (2, 3):
            for seed in range(4):
                for many in (4, 6):
                    book = random_book(seed, b, many)
                    self.quickly(sums, book, 30)
                    self.quickly(rule, book)
                    self.quickly(sum_at, book, 400)


if __name__ == "__main__":
    unittest.main()
