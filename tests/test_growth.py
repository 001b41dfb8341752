"""growth.py: gap sums, and the rule of them."""

import functools
import random
import unittest
from fractions import Fraction

from samples import (
    BENDS, PEANO, RING_OF_BENDS, ROWS, cells_in_words, chain, one_sequence_book, random_book, small_books,
)
from squarethreads.books import backward, begun_at, least, turned
from squarethreads.growth import rule, sum_at, sums


def gap_sum_in_words(book, d):
    """Promise 9, word by word."""
    numbers = {cell: number for number, cell in enumerate(cells_in_words(book, d))}
    total = 0
    for (x, y), number in numbers.items():
        for other in ((x + 1, y), (x, y + 1)):
            if other in numbers:
                total += abs(numbers[other] - number)
    return total


def gap_sums_by_pairs(book, n):
    """The gap sums of the depths 0 to n in another way: by the differences across the border of each two kinds."""
    b, kinds = book
    at = [{(x, y): (k, kind) for k, (x, y, kind) in enumerate(parts)} for parts in kinds]

    @functools.cache
    def across(left, right, axis, d):
        """The sum of the differences over the border of two squares, the one greater in the axis less the other."""
        if d == 0:
            return 0
        total = 0
        for k in range(b):
            low, high = ((b - 1, k), (0, k)) if axis == 0 else ((k, b - 1), (k, 0))
            (i, below), (j, above) = at[left][low], at[right][high]
            total += (j - i) * b ** (3 * (d - 1)) + across(below, above, axis, d - 1)
        return total

    @functools.cache
    def inside(kind, d):
        if d == 0:
            return 0
        total = sum(inside(part[2], d - 1) for part in kinds[kind])
        for (x, y), (i, low) in at[kind].items():
            for axis, place in ((0, (x + 1, y)), (1, (x, y + 1))):
                if place in at[kind]:
                    j, high = at[kind][place]
                    total += abs((j - i) * b ** (3 * (d - 1)) + across(low, high, axis, d - 1))
        return total

    return [inside(0, d) for d in range(n + 1)]


def shortest_rule(told):
    """The shortest rule of a sequence, by Berlekamp's and Massey's way; told has twice its length or more."""
    current, before = [Fraction(1)], [Fraction(1)]
    length, since, last = 0, 1, Fraction(1)
    for at in range(len(told)):
        off = sum(c * told[at - k] for k, c in enumerate(current) if k <= length)
        if off == 0:
            since += 1
            continue
        kept = list(current)
        current += [Fraction(0)] * (len(before) + since - len(current))
        for k, c in enumerate(before):
            current[k + since] -= off / last * c
        if 2 * length <= at:
            length, before, last, since = at + 1 - length, kept, off, 1
        else:
            since += 1
    current += [Fraction(0)] * (length + 1 - len(current))
    return tuple(-c for c in current[1:length + 1])


def follows(told, found):
    """Whether the rule holds from the depth of its length on."""
    m = len(found)
    return all(told[d] == sum(c * told[d - 1 - k] for k, c in enumerate(found)) for d in range(m, len(told)))


def few_kinds():
    """Books of at most four kinds."""
    return [book for book in small_books() if len(book[1]) <= 4] + [
        make(seed, b, 4) for make in (random_book, one_sequence_book) for b in (2, 3) for seed in range(4)
    ] + [chain(b, many) for b in (2, 3) for many in (1, 2, 3, 4)] + [random_book(9, b, 1) for b in (2, 3)]


# The thread of kind 1, which never comes back to kind 0: what depth 1 has on is one thing, depth 0 and 1 another.
ONCE = (2, (((0, 0, 1), (1, 1, 1), (0, 1, 1), (1, 0, 1)),) + ((tuple((x, y, 1) for x, y, _ in ROWS[1][0])),))


class Sums(unittest.TestCase):
    def test_against_the_words(self):
        for book in few_kinds():
            n = 5 if book[0] == 2 else 3
            told = [gap_sum_in_words(book, d) for d in range(n + 1)]
            for d in range(n + 1):
                self.assertEqual(sums(book, d), told[:d + 1])
                self.assertEqual(sum_at(book, d), told[d])
                self.assertEqual(sums(book=book, n=d), told[:d + 1])
                self.assertEqual(sum_at(book=book, d=d), told[d])

    def test_the_other_way(self):
        for book in few_kinds():
            told = gap_sums_by_pairs(book, 60)
            self.assertEqual(sums(book, 30), told[:31])
            for d in (0, 1, 7, 30, 31, 59, 60):
                self.assertEqual(sum_at(book, d), told[d])

    def test_edges(self):
        for book in few_kinds():
            self.assertEqual(sums(book, 0), [0])
            self.assertEqual(sum_at(book, 0), 0)
            self.assertEqual(len(sums(book, 30)), 31)
            self.assertEqual(sum_at(book, 30), sums(book, 30)[30])

    def test_bends_by_hand(self):
        # Depth 1: three steps of 1 each, and the gap of 3 between the first and the last cell.
        self.assertEqual(sums(BENDS, 1), [0, 6])
        # Peano's nine cells: eight steps; beside, two rows of 5, 3, 1 without the step that is one.
        self.assertEqual(sums(PEANO, 1), [0, 8 + 5 + 3 + 5 + 3])

    def test_great_depths(self):
        # 8 and 2 are the roots of the rule of rows.
        self.assertEqual(sum_at(ROWS, 400), 8 ** 400 - 2 ** 400)
        self.assertEqual(sums(ROWS, 30), [8 ** d - 2 ** d for d in range(31)])
        for book in few_kinds()[::3]:
            self.assertEqual(sum_at(book, 400), gap_sums_up(book, 400))
        self.assertEqual(sum_at(ROWS, 450), 8 ** 450 - 2 ** 450)

    def test_same_in_postures_and_backward(self):
        for book in few_kinds():
            for other in (backward(book), turned(book, (1, 0)), turned(book, (2, 1)), begun_at(book, 0), least(book)):
                self.assertEqual(sums(other, 12), sums(book, 12))
                self.assertEqual(rule(other), rule(book))

    def test_kinds_that_nothing_leads_to(self):
        lonely = (2, ROWS[1] + (((1, 1, 0), (0, 0, 1), (1, 0, 1), (0, 1, 0)),))
        self.assertEqual([sums(lonely, 9), sum_at(lonely, 70)], [sums(ROWS, 9), sum_at(ROWS, 70)])
        self.assertEqual(rule(lonely), rule(ROWS))


def gap_sums_up(book, d):
    """A gap sum by the rule of the first ones, told in another way."""
    told = gap_sums_by_pairs(book, 120)
    found = [int(c) for c in shortest_rule(told)]
    while len(told) <= d:
        told.append(sum(c * told[-1 - k] for k, c in enumerate(found)))
    return told[d]


class Rules(unittest.TestCase):
    def test_shortest_one(self):
        for book in few_kinds():
            firsts, found = rule(book)
            told = gap_sums_by_pairs(book, 120)
            self.assertEqual(found, shortest_rule(told), book)
            self.assertTrue(follows(told, found))
            self.assertEqual(firsts, tuple(told[:len(found)]))
            self.assertEqual(rule(book=book), (firsts, found))

    def test_lengths(self):
        for book in few_kinds():
            firsts, found = rule(book)
            self.assertEqual(len(firsts), len(found))
            # Depth 0 has the gap sum 0 and depth 1 has not, so that one integer is never enough.
            self.assertGreaterEqual(len(found), 2)
            self.assertLessEqual(len(found), 5 * len(book[1]) + 1)

    def test_nought_at_the_end(self):
        self.assertEqual(rule(ONCE)[1], (10, -16, 0))
        self.assertTrue(follows(gap_sums_by_pairs(ONCE, 200), (10, -16, 0)))
        self.assertFalse(follows(gap_sums_by_pairs(ONCE, 200), (10, -16)))
        ends = [rule(chain(b, many))[1][-1] for b in (2, 3) for many in (2, 3, 4)]
        self.assertIn(0, ends)
        self.assertNotEqual(rule(ROWS)[1][-1], 0)

    def test_noughts_at_the_end(self):
        # Up to three kinds before the one that leads to itself: one of them is unlike the rows.
        rows, other = [(0, 0), (1, 0), (0, 1), (1, 1)], [(0, 0), (1, 0), (1, 1), (0, 1)]
        for unlike in (0, 1, 2):
            places = [other if k == unlike else rows for k in range(4)]
            book = (2, tuple(tuple((x, y, min(k + 1, 3)) for x, y in places[k]) for k in range(4)))
            firsts, found = rule(book)
            self.assertEqual(found, (10, -16) + (0,) * (unlike + 1))
            self.assertEqual(found, shortest_rule(gap_sums_by_pairs(book, 60)))
            self.assertEqual(firsts, tuple(gap_sum_in_words(book, d) for d in range(len(found))))

    def test_known_ones(self):
        self.assertEqual(rule(ROWS), ((0, 6), (10, -16)))
        self.assertEqual(rule(BENDS), ((0, 6, 64), (13, -44, 32)))
        self.assertEqual(rule(BENDS)[1], shortest_rule([gap_sum_in_words(BENDS, d) for d in range(7)]))
        self.assertEqual(rule(PEANO)[1], shortest_rule(gap_sums_by_pairs(PEANO, 50)))

    def test_somewhat_beyond_the_bounds(self):
        for b in (2, 3):
            for many in (5, 6, 8):
                book = random_book(1, b, many)
                found = rule(book)[1]
                told = gap_sums_by_pairs(book, 10 * many + 20)
                self.assertEqual(found, shortest_rule(told))
        self.assertEqual(rule(RING_OF_BENDS)[1], shortest_rule(gap_sums_by_pairs(RING_OF_BENDS, 80)))

    def test_many_books(self):
        chance = random.Random("rules")
        for _ in range(60):
            b, many = chance.choice((2, 3)), chance.randrange(1, 5)
            book = random_book(chance.randrange(10 ** 9), b, many)
            told = gap_sums_by_pairs(book, 10 * many + 4)
            self.assertEqual(rule(book)[1], shortest_rule(told), book)


class Answers(unittest.TestCase):
    def test_sorts_of_values(self):
        for book in (ROWS, PEANO, ONCE):
            self.assertIs(type(sums(book, 3)), list)
            self.assertEqual({type(n) for n in sums(book, 3) + [sum_at(book, 3)]}, {int})
            told = rule(book)
            self.assertEqual([type(told), type(told[0]), type(told[1])], [tuple, tuple, tuple])
            self.assertEqual({type(n) for n in told[0] + told[1]}, {int})

    def test_lists_are_new_each_time(self):
        for n in (0, 1, 9):
            first = sums(BENDS, n)
            kept = list(first)
            first.append(7)
            first[0] = -1
            self.assertEqual(sums(BENDS, n), kept)
            self.assertEqual(rule(BENDS), ((0, 6, 64), (13, -44, 32)))


if __name__ == "__main__":
    unittest.main()
