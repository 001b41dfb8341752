"""gaps.py: how far apart in number cells are."""

import random
import unittest

from samples import (
    ALL_POSTURES, BENDS, PEANO, RING_OF_BENDS, ROWS, cells_in_words, chain, copies, large_books, near,
    numbers_in_words, random_book, small_books,
)
from squarethreads.books import backward, begun_at, turned
from squarethreads.errors import InvalidDepth
from squarethreads.gaps import gap, gap_sum, greatest_gap, widest
from squarethreads.growth import sum_at
from squarethreads.threads import cell_of


def gaps_in_words(book, d):
    """The gap of each pair of cells of a depth with a side in common, the less one first."""
    numbers = numbers_in_words(book, d)
    pairs = [((x, y), other) for x, y in numbers for other in ((x + 1, y), (x, y + 1)) if other in numbers]
    return {(one, other): abs(numbers[one] - numbers[other]) for one, other in pairs}


class GreatestInWords:
    """The greatest gap of a depth, from the cells along the sides that two squares have in common."""

    def __init__(self, book):
        self.b, self.kinds = book
        self.known = {}

    def of_kind(self, kind, d):
        """The greatest gap of a kind's thread, None of the one cell of depth 0."""
        if d == 0:
            return None
        if (kind, d) not in self.known:
            parts, share = self.kinds[kind], self.b ** (2 * (d - 1))
            found = [self.of_kind(below, d - 1) for _, _, below in parts]
            for k, one in enumerate(parts):
                for j, other in enumerate(parts):
                    if k < j and near(one[:2], other[:2]):
                        way = (other[0] - one[0], other[1] - one[1])
                        found.append((j - k) * share - self.least_lead(one[2], other[2], way, d - 1))
            self.known[kind, d] = max(told for told in found if told is not None)
        return self.known[kind, d]

    def least_lead(self, one, other, way, d):
        """The least of: number of a cell of the one less that of the neighbor in the other, which lies in a way."""
        if d == 0:
            return 0
        key = (one, other, way, d)
        if key not in self.known:
            share, last = self.b ** (2 * (d - 1)), self.b - 1
            found = []
            for k, (x, y, below) in enumerate(self.kinds[one]):
                for j, (u, v, beside) in enumerate(self.kinds[other]):
                    if way[0] == 0:
                        faces = x == u and (y, v) == ((last, 0) if way[1] == 1 else (0, last))
                    else:
                        faces = y == v and (x, u) == ((last, 0) if way[0] == 1 else (0, last))
                    if faces:
                        found.append((k - j) * share + self.least_lead(below, beside, way, d - 1))
            assert len(found) == self.b
            self.known[key] = min(found)
        return self.known[key]


class Gap(unittest.TestCase):
    def test_all_pairs(self):
        for book in small_books():
            numbers = numbers_in_words(book, 2 if book[0] == 2 else 1)
            for one in numbers:
                for other in numbers:
                    self.assertEqual(gap(book, 2 if book[0] == 2 else 1, one, other), abs(numbers[one] - numbers[other]))

    def test_by_name(self):
        self.assertEqual(gap(book=ROWS, d=2, one=(1, 1), other=(2, 1)), 3)
        self.assertEqual(greatest_gap(book=ROWS, d=2), 6)
        self.assertEqual(widest(book=ROWS, d=1), ((0, 0), (0, 1)))
        self.assertEqual(gap_sum(book=ROWS, d=1), 6)

    def test_great_depths(self):
        for book in small_books() + large_books():
            many = book[0] ** 120
            chance = random.Random(f"gap {many}")
            for _ in range(5):
                one, other = chance.randrange(many), chance.randrange(many)
                self.assertEqual(gap(book, 60, cell_of(book, 60, one), cell_of(book, 60, other)), abs(one - other))
            ends = (cell_of(book, 60, 0), cell_of(book, 60, many - 1))
            self.assertEqual(gap(book, 60, *ends), many - 1)
            self.assertEqual(gap(book, 60, *ends[::-1]), many - 1)
            self.assertEqual(gap(book, 60, ends[0], ends[0]), 0)

    def test_depth_nought(self):
        self.assertEqual(gap(BENDS, 0, (0, 0), (0, 0)), 0)
        self.assertEqual(gap_sum(BENDS, 0), 0)

    def test_sorts_of_values(self):
        for told in (gap(BENDS, 1, (0, 0), (1, 0)), greatest_gap(BENDS, 3), gap_sum(BENDS, 3), gap_sum(BENDS, 0)):
            self.assertIs(type(told), int)
        told = widest(BENDS, 2)
        self.assertEqual([type(told), type(told[0]), type(told[1])], [tuple] * 3)
        self.assertEqual({type(place) for cell in told for place in cell}, {int})


class Greatest(unittest.TestCase):
    def test_small_depths(self):
        for book in small_books() + large_books():
            for d in range(1, 5 if book[0] == 2 else 4):
                gaps = gaps_in_words(book, d)
                greatest = max(gaps.values())
                self.assertEqual(greatest_gap(book, d), greatest)
                self.assertEqual(widest(book, d), min(pair for pair in gaps if gaps[pair] == greatest))
                self.assertEqual(gap_sum(book, d), sum(gaps.values()))

    def test_greatest_depth_of_widest(self):
        for book in (BENDS, PEANO, random_book(3, 3, 20), chain(3, 20)):
            gaps = gaps_in_words(book, 4)
            greatest = max(gaps.values())
            self.assertEqual(greatest_gap(book, 4), greatest)
            self.assertEqual(widest(book, 4), min(pair for pair in gaps if gaps[pair] == greatest))
            self.assertEqual(gap_sum(book, 4), sum(gaps.values()))

    def test_all_depths_part_by_part(self):
        for book in small_books():
            told = GreatestInWords(book)
            for d in range(1, 61):
                expected = told.of_kind(0, d)
                if d in (1, 2, 3, 10, 31, 59, 60):
                    self.assertEqual(greatest_gap(book, d), expected)

    def test_all_depths_of_twenty_kinds(self):
        for book in (random_book(0, 2, 20), chain(2, 20), chain(3, 20), copies(BENDS, 5, backward(BENDS))):
            told = GreatestInWords(book)
            for d in range(1, 61):
                expected = told.of_kind(0, d)
                if d in (7, 20, 25, 60):
                    self.assertEqual(greatest_gap(book, d), expected)

    def test_by_hand(self):
        # Over the middle of the Z-order from the lower half to the upper one, at the left side, each half a square
        # of rows: two parts' numbers, less what the lower cell is before its part's end.
        self.assertEqual([greatest_gap(ROWS, d) for d in range(1, 6)], [2, 6, 22, 86, 342])
        for d in range(1, 61):
            self.assertEqual(greatest_gap(ROWS, d), (4 ** d + 2) // 3)
        self.assertEqual([greatest_gap(BENDS, 1), greatest_gap(BENDS, 2), greatest_gap(PEANO, 1)], [3, 13, 5])
        self.assertEqual(widest(BENDS, 1), ((0, 0), (1, 0)))
        self.assertEqual(widest(PEANO, 1), ((0, 0), (1, 0)))

    def test_the_same_in_all_postures_and_backward(self):
        for book in small_books():
            for d in (1, 3, 60):
                expected = greatest_gap(book, d)
                self.assertEqual(greatest_gap(backward(book), d), expected)
                for posture in ALL_POSTURES:
                    self.assertEqual(greatest_gap(turned(book, posture), d), expected)

    def test_kinds_that_nothing_leads_to(self):
        for book in (BENDS, RING_OF_BENDS):
            lonely = (2, book[1] + (tuple((x, y, 0) for x, y, _ in ROWS[1][0]),))
            for d in (1, 2, 60):
                self.assertEqual(greatest_gap(lonely, d), greatest_gap(book, d))
                self.assertEqual(gap_sum(lonely, d), gap_sum(book, d))
            self.assertEqual(widest(lonely, 3), widest(book, 3))
            self.assertEqual(greatest_gap(begun_at(lonely, len(book[1])), 2), max(gaps_in_words(
                begun_at(lonely, len(book[1])), 2).values()))

    def test_no_pairs_at_depth_nought(self):
        for function in (greatest_gap, widest):
            with self.assertRaises(InvalidDepth) as held:
                function(BENDS, 0)
            self.assertEqual(held.exception.value, 0)

    def test_a_cell_and_its_neighbors(self):
        for book in [BENDS, PEANO] + large_books():
            size = book[0] ** 60
            greatest = greatest_gap(book, 60)
            chance = random.Random(7)
            for _ in range(20):
                x, y = chance.randrange(size - 1), chance.randrange(size - 1)
                for other in ((x + 1, y), (x, y + 1)):
                    self.assertLessEqual(gap(book, 60, (x, y), other), greatest)


class Sums(unittest.TestCase):
    def test_great_depths(self):
        for book in small_books() + large_books():
            for d in (0, 1, 5, 30, 60):
                self.assertEqual(gap_sum(book, d), sum_at(book, d))

    def test_closed_form_of_rows(self):
        # The rule (10, -16) of the document: each gap sum is a share of 2 and a share of 8 to the power of the depth.
        for d in range(61):
            self.assertEqual(gap_sum(ROWS, d), 8 ** d - 2 ** d)

    def test_cells_in_words(self):
        self.assertEqual(len(gaps_in_words(ROWS, 3)), 2 * 7 * 8)
        self.assertEqual(len(cells_in_words(ROWS, 3)), 64)


if __name__ == "__main__":
    unittest.main()
