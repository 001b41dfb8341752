"""threads.py: numbers of cells, cells of numbers."""

import random
import unittest

from samples import (
    BENDS, PEANO, RING_OF_BENDS, ROWS, cell_in_words, cells_in_words, chain, kinds_in_words, large_books, random_book,
    small_books,
)
from squarethreads.books import begun_at
from squarethreads.threads import cell_of, first_cell, kinds_on, last_cell, number_of, thread, whole

DEEP = (5, 17, 31, 59, 60)


def some_numbers(seed, cells):
    """Numbers below so many: the least and the greatest ones and some between."""
    chance = random.Random(f"numbers {seed}")
    edges = [0, 1, cells // 2, cells - 2, cells - 1]
    return sorted({n for n in edges + [chance.randrange(cells) for _ in range(20)] if 0 <= n < cells})


class AgainstTheWords(unittest.TestCase):
    def test_samples_are_paths(self):
        for book in (BENDS, PEANO, RING_OF_BENDS):
            cells = cells_in_words(book, 3)
            for (x, y), (u, v) in zip(cells, cells[1:]):
                self.assertEqual(abs(x - u) + abs(y - v), 1)

    def test_whole(self):
        for book in small_books():
            for d in range(5 if book[0] == 2 else 4):
                cells = cells_in_words(book, d)
                self.assertEqual(whole(book, d), cells)
                self.assertEqual(whole(book=book, d=d), cells)
                size = book[0] ** d
                self.assertEqual(sorted(cells), [(x, y) for x in range(size) for y in range(size)])

    def test_whole_at_the_greatest_depth(self):
        for book in (PEANO, random_book(1, 3, 5), random_book(1, 3, 20), random_book(1, 2, 20)):
            cells = cells_in_words(book, 4)
            self.assertEqual(whole(book, 4), cells)
            for number in range(0, len(cells), 37):
                self.assertEqual(number_of(book, 4, cells[number]), number)
                self.assertEqual(cell_of(book, 4, number), cells[number])

    def test_each_number_and_cell(self):
        for book in small_books() + large_books():
            for d in range(5 if book[0] == 2 else 3):
                cells = cells_in_words(book, d)
                ways = kinds_in_words(book, d)
                for number, cell in enumerate(cells):
                    self.assertEqual(number_of(book, d, cell), number)
                    self.assertEqual(cell_of(book, d, number), cell)
                    self.assertEqual(kinds_on(book, d, number), ways[number])
                self.assertEqual(first_cell(book, d), cells[0])
                self.assertEqual(last_cell(book, d), cells[-1])

    def test_thread(self):
        for book in (ROWS, BENDS, PEANO, random_book(2, 2, 20), random_book(2, 3, 20)):
            for d in range(3):
                cells = cells_in_words(book, d)
                for first in range(len(cells)):
                    for many in (0, 1, 2, 5, len(cells) - first, len(cells) - first + 1, len(cells), 1000):
                        self.assertEqual(thread(book, d, first, many), cells[first:first + many])

    def test_by_name(self):
        self.assertEqual(number_of(book=BENDS, d=2, cell=(3, 1)), cells_in_words(BENDS, 2).index((3, 1)))
        self.assertEqual(cell_of(book=BENDS, d=2, number=9), cells_in_words(BENDS, 2)[9])
        self.assertEqual(kinds_on(book=BENDS, d=2, number=13), (0, 2, 2))
        self.assertEqual(thread(book=BENDS, d=2, first=9, many=3), cells_in_words(BENDS, 2)[9:12])
        self.assertEqual(first_cell(book=BENDS, d=5), (0, 0))
        self.assertEqual(last_cell(book=BENDS, d=5), (31, 0))

    def test_depth_nought(self):
        for book in small_books() + large_books():
            self.assertEqual(number_of(book, 0, (0, 0)), 0)
            self.assertEqual(cell_of(book, 0, 0), (0, 0))
            self.assertEqual(kinds_on(book, 0, 0), (0,))
            self.assertEqual(thread(book, 0, 0, 1000), [(0, 0)])
            self.assertEqual(thread(book, 0, 0, 0), [])
            self.assertEqual([first_cell(book, 0), last_cell(book, 0)], [(0, 0), (0, 0)])
            self.assertEqual(whole(book, 0), [(0, 0)])


class Deep(unittest.TestCase):
    def test_there_and_back(self):
        for book in small_books() + large_books():
            b = book[0]
            for d in DEEP:
                for number in some_numbers(d, b ** (2 * d)):
                    cell = cell_of(book, d, number)
                    self.assertEqual(cell, cell_in_words(book, d, number))
                    self.assertEqual(number_of(book, d, cell), number)

    def test_back_and_there_at_the_edges(self):
        for book in small_books() + large_books():
            for d in DEEP:
                size = book[0] ** d
                for x in (0, 1, size // 2, size - 2, size - 1):
                    for y in (0, 1, size // 2 - 1, size - 2, size - 1):
                        number = number_of(book, d, (x, y))
                        self.assertTrue(0 <= number < size * size)
                        self.assertEqual(cell_of(book, d, number), (x, y))

    def test_ends(self):
        for book in small_books() + large_books():
            for d in DEEP:
                greatest = book[0] ** (2 * d) - 1
                self.assertEqual(first_cell(book, d), cell_of(book, d, 0))
                self.assertEqual(last_cell(book, d), cell_of(book, d, greatest))
                self.assertEqual(last_cell(book, d), cell_in_words(book, d, greatest))
        self.assertEqual(last_cell(BENDS, 60), (2 ** 60 - 1, 0))
        self.assertEqual(last_cell(ROWS, 60), (2 ** 60 - 1, 2 ** 60 - 1))
        self.assertEqual(last_cell(PEANO, 60), (3 ** 60 - 1, 3 ** 60 - 1))

    def test_kinds_on_the_way(self):
        for book in small_books() + large_books():
            share = book[0] ** 2
            for d in DEEP:
                for number in some_numbers(d, share ** d):
                    way = kinds_on(book, d, number)
                    self.assertEqual((len(way), way[0]), (d + 1, 0))
                    for k in range(d):
                        digit = number // share ** (d - 1 - k) % share
                        self.assertEqual(way[k + 1], book[1][way[k]][digit][2])
                    self.assertEqual(kinds_on(book, d - 1, number // share), way[:-1])

    def test_rows_of_the_z_order(self):
        # In the rows the bits of x and y take turns in the number.
        x, y = int("01" * 30, 2), int("0011" * 15, 2)
        number = int("".join(v + u for u, v in zip(f"{x:060b}", f"{y:060b}")), 2)
        self.assertEqual(number_of(ROWS, 60, (x, y)), number)
        self.assertEqual(cell_of(ROWS, 60, number), (x, y))

    def test_thread(self):
        for book in large_books() + [BENDS, PEANO]:
            for d in DEEP:
                cells = book[0] ** (2 * d)
                for first in some_numbers(d, cells)[::6] + [cells - 1, cells - 500, cells // 2 - 3]:
                    got = thread(book, d, first, 7)
                    numbers = range(first, min(first + 7, cells))
                    self.assertEqual(got, [cell_in_words(book, d, number) for number in numbers])
                self.assertEqual(thread(book, d, cells - 1, 1), [last_cell(book, d)])
                self.assertEqual(thread(book, d, cells - 1, 1000), [last_cell(book, d)])
                self.assertEqual(thread(book, d, cells - 1, 10 ** 50), [last_cell(book, d)])
                self.assertEqual(thread(book, d, cells - 1, 0), [])
                self.assertEqual(thread(book, d, 0, 0), [])
                self.assertEqual(len(thread(book, d, cells - 999, 1000)), min(999, cells))

    def test_a_thousand_cells(self):
        for book in large_books() + [BENDS]:
            first = book[0] ** 120 // 2 - 500
            got = thread(book, 60, first, 1000)
            self.assertEqual(len(got), 1000)
            self.assertEqual([number_of(book, 60, cell) for cell in got], list(range(first, first + 1000)))

    def test_somewhat_beyond_the_bounds(self):
        book = random_book(3, 3, 30)
        number = 3 ** 160 // 7
        self.assertEqual(number_of(book, 80, cell_of(book, 80, number)), number)
        self.assertEqual(len(thread(book, 70, 5, 1500)), 1500)
        self.assertEqual(len(whole(BENDS, 5)), 1024)

    def test_kinds_that_nothing_leads_to_do_not_count(self):
        lonely = (2, ROWS[1] + (((1, 1, 0), (0, 1, 1), (1, 0, 0), (0, 0, 1)),))
        for d in (0, 1, 4):
            self.assertEqual(whole(lonely, d), whole(ROWS, d))

    def test_same_thread_begun_anew(self):
        for book in large_books():
            again = begun_at(book, 0)
            for number in some_numbers(9, book[0] ** 120):
                self.assertEqual(cell_of(again, 60, number), cell_of(book, 60, number))

    def test_chain_goes_other_at_its_end_alone(self):
        straight = chain(2, 20, [(0, 0), (1, 0), (0, 1), (1, 1)])
        self.assertEqual(first_cell(straight, 60), (0, 0))
        self.assertEqual(first_cell(chain(2, 20), 19), (0, 0))
        self.assertEqual(first_cell(chain(2, 20), 20), (1, 1))
        self.assertEqual(first_cell(chain(2, 20), 60), (2 ** 41 - 1, 2 ** 41 - 1))
        self.assertEqual(kinds_on(chain(2, 20), 21, 0), tuple(range(20)) + (19, 19))


class Answers(unittest.TestCase):
    def test_sorts_of_values(self):
        for d in (0, 1, 3):
            self.assertIs(type(number_of(BENDS, d, (0, 0))), int)
            self.assertIs(type(kinds_on(BENDS, d, 0)), tuple)
            for cell in (cell_of(BENDS, d, 0), first_cell(BENDS, d), last_cell(BENDS, d)):
                self.assertIs(type(cell), tuple)
                self.assertEqual([type(n) for n in cell], [int, int])
            for cells in (whole(BENDS, d), thread(BENDS, d, 0, 3)):
                self.assertIs(type(cells), list)
                self.assertEqual({type(cell) for cell in cells}, {tuple})

    def test_lists_are_new_each_time(self):
        for told in (lambda: whole(BENDS, 2), lambda: thread(BENDS, 2, 3, 5), lambda: thread(BENDS, 0, 0, 0)):
            first = told()
            kept = list(first)
            first.append("more")
            first.reverse()
            self.assertEqual(told(), kept)
            self.assertIsNot(told(), told())


if __name__ == "__main__":
    unittest.main()
