"""drawings.py: threads drawn with signs and numbers."""

import unittest

from samples import BENDS, PEANO, RING_OF_BENDS, ROWS, cells_in_words, chain, large_books, random_book, small_books
from squarethreads.drawings import drawn, numbers_drawn


def drawn_in_words(book, d):
    """The section word by word: each sign by its own place."""
    size = book[0] ** d
    cells = cells_in_words(book, d)
    steps = set(zip(cells, cells[1:]))
    rows = []
    for up in range(2 * size - 2, -1, -1):
        row = ""
        for across in range(2 * size - 1):
            x, y = across // 2, up // 2
            if across % 2 == 0 and up % 2 == 0:
                row += "o"
            elif across % 2 == 1 and up % 2 == 1:
                row += " "
            else:
                one, other = (x, y), (x + across % 2, y + up % 2)
                there = (one, other) in steps or (other, one) in steps
                row += ("-" if up % 2 == 0 else "|") if there else " "
        rows.append(row)
    return rows


def numbers_in_words(book, d):
    size = book[0] ** d
    cells = cells_in_words(book, d)
    return [[cells.index((x, y)) for x in range(size)] for y in range(size - 1, -1, -1)]


class Drawings(unittest.TestCase):
    def test_depth_nought(self):
        for book in small_books() + large_books():
            self.assertEqual(drawn(book, 0), ["o"])
            self.assertEqual(numbers_drawn(book, 0), [[0]])

    def test_rows(self):
        # Of the three steps of depth 1 the middle one is a leap, and leaves no sign.
        self.assertEqual(drawn(ROWS, 1), ["o-o", "   ", "o-o"])
        self.assertEqual(drawn(ROWS, 2), [
            "o-o o-o", "       ", "o-o o-o", "       ", "o-o o-o", "       ", "o-o o-o",
        ])
        self.assertEqual(numbers_drawn(ROWS, 2), [[10, 11, 14, 15], [8, 9, 12, 13], [2, 3, 6, 7], [0, 1, 4, 5]])

    def test_bends(self):
        self.assertEqual(drawn(BENDS, 2), [
            "o-o o-o", "| | | |", "o o-o o", "|     |", "o-o o-o", "  | |  ", "o-o o-o",
        ])
        self.assertEqual(numbers_drawn(BENDS, 2), [[5, 6, 9, 10], [4, 7, 8, 11], [3, 2, 13, 12], [0, 1, 14, 15]])

    def test_no_turn_to_the_side(self):
        # A thread that is not the same with x and y exchanged, nor upside down.
        self.assertEqual(drawn(PEANO, 1), ["o-o o", "| | |", "o o o", "| | |", "o o-o"])
        self.assertEqual(numbers_drawn(PEANO, 1), [[2, 3, 8], [1, 4, 7], [0, 5, 6]])

    def test_leaps_far_away_leave_no_sign(self):
        places = ((0, 0), (2, 0), (0, 2), (2, 2), (1, 1), (1, 0), (0, 1), (1, 2), (2, 1))
        apart = (3, (tuple((x, y, 0) for x, y in places),))
        self.assertEqual(drawn(apart, 1), ["o o o", "     ", "o o o", "  |  ", "o o o"])
        self.assertEqual(numbers_drawn(apart, 1), [[2, 7, 3], [6, 4, 8], [0, 5, 1]])

    def test_against_the_words(self):
        for book in small_books() + large_books():
            for d in range(4 if book[0] == 2 else 3):
                self.assertEqual(drawn(book, d), drawn_in_words(book, d))
                self.assertEqual(numbers_drawn(book, d), numbers_in_words(book, d))
                self.assertEqual(drawn(book=book, d=d), drawn_in_words(book, d))
                self.assertEqual(numbers_drawn(book=book, d=d), numbers_in_words(book, d))

    def test_greatest_depth(self):
        for book in (BENDS, PEANO, RING_OF_BENDS, random_book(1, 2, 20), random_book(1, 3, 20)):
            size = book[0] ** 4
            self.assertEqual(drawn(book, 4), drawn_in_words(book, 4))
            cells = cells_in_words(book, 4)
            numbers = numbers_drawn(book, 4)
            self.assertEqual([len(row) for row in numbers], [size] * size)
            for number, (x, y) in enumerate(cells):
                self.assertEqual(numbers[size - 1 - y][x], number)

    def test_somewhat_beyond(self):
        self.assertEqual(drawn(BENDS, 5), drawn_in_words(BENDS, 5))
        book = chain(2, 25)
        self.assertEqual(drawn(book, 3), drawn_in_words(book, 3))

    def test_paths_have_all_signs(self):
        for book in (BENDS, PEANO, RING_OF_BENDS):
            for d in (1, 2, 3):
                text = "".join(drawn(book, d))
                cells = book[0] ** (2 * d)
                self.assertEqual((text.count("o"), text.count("-") + text.count("|")), (cells, cells - 1))

    def test_sorts_of_values(self):
        for d in (0, 1, 2):
            rows = drawn(BENDS, d)
            numbers = numbers_drawn(BENDS, d)
            self.assertEqual([type(rows), type(numbers)], [list, list])
            self.assertEqual({type(row) for row in rows}, {str})
            self.assertEqual({type(row) for row in numbers}, {list})
            self.assertEqual({type(number) for row in numbers for number in row}, {int})

    def test_lists_are_new_at_every_depth(self):
        for d in (0, 1, 2):
            rows, numbers = drawn(BENDS, d), numbers_drawn(BENDS, d)
            kept = [list(rows), [list(row) for row in numbers]]
            rows.append("more")
            rows[0] = ""
            for row in numbers:
                row.append(-1)
                row[0] = -1
            numbers.reverse()
            self.assertEqual([drawn(BENDS, d), numbers_drawn(BENDS, d)], kept)
            again = numbers_drawn(BENDS, d)
            self.assertEqual(len({id(row) for row in again}), len(again))


if __name__ == "__main__":
    unittest.main()
