"""spans.py: boxes, the spans of their numbers, and the next and the last number in them."""

import itertools
import random
import unittest

from samples import (
    BENDS, PEANO, RING_OF_BENDS, ROWS, all_boxes, cells_of_box, chain, large_books, numbers_in_words, random_book,
    small_books, some_boxes, spans_of, wrong_boxes,
)
from squarethreads.books import backward, begun_at
from squarethreads.errors import InvalidBox
from squarethreads.spans import at_most, cells_in, how_many, is_box, last_in, next_in, spans
from squarethreads.threads import cell_of, kinds_on, number_of


def at_most_in_words(numbers, held, most):
    """Of all sets of numbers below so many that have the held ones, by at most so many spans: the fewest others."""
    others = [number for number in range(numbers) if number not in held]
    for many in range(len(others) + 1):
        found = [spans_of(list(held) + list(more)) for more in itertools.combinations(others, many)]
        found = [told for told in found if len(told) <= most]
        if found:
            return min(found)
    raise AssertionError("one span has all")


class Spans(unittest.TestCase):
    def check(self, book, d, box, numbers):
        held = [numbers[cell] for cell in cells_of_box(box)]
        expected = spans_of(held)
        self.assertEqual(spans(book, d, box), expected)
        self.assertEqual(how_many(book, d, box), len(expected))
        self.assertEqual(cells_in(book, d, box), len(held))

    def test_all_boxes_of_small_depths(self):
        for book in [ROWS, BENDS, PEANO, RING_OF_BENDS, random_book(0, 2, 5), random_book(1, 3, 2)]:
            for d in range(3 if book[0] == 2 else 2):
                numbers = numbers_in_words(book, d)
                for box in all_boxes(book[0] ** d):
                    self.check(book, d, box, numbers)

    def test_some_boxes_of_many_books(self):
        for seed, book in enumerate(small_books() + large_books()):
            for d in range(1, 5 if book[0] == 2 else 4):
                numbers = numbers_in_words(book, d)
                for box in some_boxes(seed, book[0] ** d, 8):
                    self.check(book, d, box, numbers)

    def test_greatest_depth_of_spans(self):
        for book in (ROWS, BENDS, PEANO, random_book(4, 2, 20), random_book(4, 3, 8), chain(3, 20)):
            numbers = numbers_in_words(book, 6 if book[0] == 2 else 5)
            for box in some_boxes(3, book[0] ** (6 if book[0] == 2 else 5), 3):
                self.check(book, 6 if book[0] == 2 else 5, box, numbers)
        numbers = numbers_in_words(PEANO, 6)
        for box in ((300, 20, 500, 100), (1, 1, 728, 728), (364, 0, 365, 729)):
            self.check(PEANO, 6, box, numbers)

    def test_edges(self):
        for book in small_books() + large_books():
            size = book[0] ** 3
            self.assertEqual(spans(book, 0, (0, 0, 1, 1)), ((0, 1),))
            self.assertEqual(how_many(book, 0, (0, 0, 1, 1)), 1)
            self.assertEqual(cells_in(book, 0, (0, 0, 1, 1)), 1)
            self.assertEqual(spans(book, 3, (0, 0, size, size)), ((0, size * size),))
            self.assertEqual(how_many(book, 60, (0, 0, book[0] ** 60, book[0] ** 60)), 1)
            for x, y in ((0, 0), (size - 1, 0), (3, 5), (size - 1, size - 1)):
                number = number_of(book, 3, (x, y))
                self.assertEqual(spans(book, 3, (x, y, x + 1, y + 1)), ((number, number + 1),))

    def test_by_hand(self):
        # The Z-order: a row is of pairs, a column of cells apart, the lower half is one span.
        self.assertEqual(spans(ROWS, 3, (0, 0, 8, 1)), ((0, 2), (4, 6), (16, 18), (20, 22)))
        self.assertEqual(spans(ROWS, 2, (1, 0, 2, 4)), ((1, 2), (3, 4), (9, 10), (11, 12)))
        self.assertEqual(spans(ROWS, 2, (0, 0, 4, 2)), ((0, 8),))
        self.assertEqual(spans(ROWS, 2, (0, 2, 4, 4)), ((8, 16),))
        self.assertEqual(spans(ROWS, 2, (0, 1, 4, 3)), ((2, 4), (6, 10), (12, 14)))
        self.assertEqual(spans(BENDS, 1, (0, 0, 2, 1)), ((0, 1), (3, 4)))
        self.assertEqual(spans(BENDS, 1, (0, 1, 2, 2)), ((1, 3),))
        self.assertEqual(spans(PEANO, 1, (0, 0, 3, 1)), ((0, 1), (5, 7)))

    def test_by_name(self):
        self.assertEqual(spans(book=ROWS, d=2, box=(0, 0, 3, 2)), ((0, 5), (6, 7)))
        self.assertEqual(how_many(book=ROWS, d=2, box=(1, 1, 3, 3)), 4)
        self.assertEqual(cells_in(book=ROWS, d=2, box=(0, 0, 3, 2)), 6)
        self.assertEqual(next_in(book=ROWS, d=2, box=(1, 1, 3, 3), number=4), 6)
        self.assertEqual(last_in(book=ROWS, d=2, box=(1, 1, 3, 3), number=8), 6)
        self.assertEqual(at_most(book=ROWS, d=2, box=(1, 1, 3, 3), most=1), ((3, 13),))

    def test_sorts_of_values(self):
        for told in (spans(BENDS, 2, (0, 0, 3, 3)), at_most(BENDS, 2, (0, 0, 3, 3), 2)):
            self.assertEqual({type(told), type(told[0])}, {tuple})
            self.assertEqual({type(number) for span in told for number in span}, {int})
        for told in (how_many(BENDS, 2, (0, 0, 4, 4)), how_many(BENDS, 2, (1, 0, 3, 3)), cells_in(ROWS, 1, (0, 0, 1, 1)),
                     next_in(ROWS, 1, (0, 0, 1, 1), 0), last_in(ROWS, 1, (0, 0, 1, 1), 3)):
            self.assertIs(type(told), int)


class HowManyAtGreatDepths(unittest.TestCase):
    def test_rows_and_columns(self):
        for d in (1, 2, 7, 59, 60):
            size = 2 ** d
            self.assertEqual(how_many(ROWS, d, (0, 0, size, 1)), 2 ** (d - 1))
            self.assertEqual(how_many(ROWS, d, (0, size - 1, size, size)), 2 ** (d - 1))
            self.assertEqual(how_many(ROWS, d, (0, 0, 1, size)), 2 ** d)
            self.assertEqual(how_many(ROWS, d, (size // 2, 0, size, size)), 2)
            self.assertEqual(how_many(ROWS, d, (0, size // 2, size, size)), 1)
            self.assertEqual(how_many(PEANO, d, (0, 0, 3 ** (d - 1), 3 ** d)), 1)
        # All but the first cell, all but the last one, all but both.
        for d in (2, 60):
            size = 2 ** d
            self.assertEqual(how_many(ROWS, d, (0, 1, size, size)), 2 ** (d - 1))
            self.assertEqual(how_many(ROWS, d, (0, 0, size - 1, size)), 2 ** d)

    def test_a_cell_cut_into_more(self):
        # Cells that are squares of more cells change nothing of how many spans there are.
        for seed, book in enumerate(small_books() + large_books()):
            b = book[0]
            for left, low, right, high in some_boxes(seed, b ** 3, 4):
                expected = how_many(book, 3, (left, low, right, high))
                self.assertEqual(expected, len(spans(book, 3, (left, low, right, high))))
                for more in (1, 30, 57):
                    scale = b ** more
                    box = (left * scale, low * scale, right * scale, high * scale)
                    self.assertEqual(how_many(book, 3 + more, box), expected)

    def test_a_box_in_a_square_far_down(self):
        for seed, book in enumerate(small_books() + large_books()):
            b = book[0]
            chance = random.Random(f"far {seed}")
            number = chance.randrange(b ** (2 * 57)) * b ** 6
            kind = kinds_on(book, 60, number)[57]
            x, y = [place // b ** 3 * b ** 3 for place in cell_of(book, 60, number)]
            for left, low, right, high in some_boxes(seed, b ** 3, 4):
                expected = len(spans(begun_at(book, kind), 3, (left, low, right, high)))
                self.assertEqual(how_many(book, 60, (x + left, y + low, x + right, y + high)), expected)

    def test_added_up_from_the_parts(self):
        # A box of all but the outermost cells is cut by each square on the sides, at all depths.
        for book in [ROWS, BENDS, PEANO] + large_books():
            for d in (8, 21, 60):
                size = book[0] ** d
                for box in ((1, 1, size - 1, size - 1), (size // 3, size // 5, size - size // 7, size // 2)):
                    self.assertEqual(how_many(book, d, box), self.added_up(book, d, 0, box, {})[0])

    def added_up(self, book, d, kind, box, known):
        """How many spans, whether the first cell is the box's and whether the last one is: part by part."""
        size = book[0] ** d
        left, low, right, high = max(box[0], 0), max(box[1], 0), min(box[2], size), min(box[3], size)
        if left >= right or low >= high:
            return (0, False, False)
        if (left, low, right, high) == (0, 0, size, size):
            return (1, True, True)
        key = (d, kind, left, low, right, high)
        if key not in known:
            many, before, begins = 0, False, None
            for x, y, below in book[1][kind]:
                side = size // book[0]
                inner = (left - x * side, low - y * side, right - x * side, high - y * side)
                more, begin, end = self.added_up(book, d - 1, below, inner, known)
                many += more - (before and begin)
                begins = begin if begins is None else begins
                before = end
            known[key] = (many, begins, before)
        return known[key]

    def test_backward_has_as_many(self):
        for seed, book in enumerate(small_books() + large_books()):
            for box in some_boxes(seed, book[0] ** 60, 3)[3:]:
                self.assertEqual(how_many(book, 60, box), how_many(backward(book), 60, box))

    def test_cells_in(self):
        for book in (ROWS, PEANO):
            size = book[0] ** 60
            self.assertEqual(cells_in(book, 60, (0, 0, size, size)), size * size)
            self.assertEqual(cells_in(book, 60, (5, 7, size - 2, size - 11)), (size - 7) * (size - 18))
            self.assertEqual(cells_in(book, 60, (size - 1, 0, size, 1)), 1)


class NextAndLast(unittest.TestCase):
    def check(self, book, d, box, held, number):
        self.assertEqual(next_in(book, d, box, number), min([told for told in held if told >= number], default=None))
        self.assertEqual(last_in(book, d, box, number), max([told for told in held if told <= number], default=None))

    def test_all_boxes_and_numbers(self):
        for book in [ROWS, BENDS, RING_OF_BENDS, random_book(0, 2, 5), random_book(1, 3, 2), PEANO]:
            for d in range(3 if book[0] == 2 else 2):
                numbers = numbers_in_words(book, d)
                for box in all_boxes(book[0] ** d):
                    held = [numbers[cell] for cell in cells_of_box(box)]
                    for number in range(len(numbers)):
                        self.check(book, d, box, held, number)

    def test_some_boxes_of_many_books(self):
        for seed, book in enumerate(small_books() + large_books()):
            d = 4 if book[0] == 2 else 3
            numbers = numbers_in_words(book, d)
            chance = random.Random(f"next {seed}")
            for box in some_boxes(seed, book[0] ** d, 6):
                held = [numbers[cell] for cell in cells_of_box(box)]
                for number in [0, len(numbers) - 1] + chance.sample(range(len(numbers)), 20):
                    self.check(book, d, box, held, number)

    def test_one_cell_at_the_greatest_depth(self):
        for book in small_books() + large_books():
            many = book[0] ** 120
            for number in (0, 1, many // 3, many - 2, many - 1):
                x, y = cell_of(book, 60, number)
                box = (x, y, x + 1, y + 1)
                self.assertEqual(next_in(book, 60, box, number), number)
                self.assertEqual(last_in(book, 60, box, number), number)
                self.assertEqual(next_in(book, 60, box, 0), number)
                self.assertEqual(last_in(book, 60, box, many - 1), number)
                if number > 0:
                    self.assertEqual(next_in(book, 60, box, number - 1), number)
                    self.assertIs(last_in(book, 60, box, number - 1), None)
                if number < many - 1:
                    self.assertIs(next_in(book, 60, box, number + 1), None)
                    self.assertEqual(last_in(book, 60, box, number + 1), number)

    def test_a_box_in_a_square_far_down(self):
        for seed, book in enumerate(small_books() + large_books()):
            b = book[0]
            chance = random.Random(f"far {seed}")
            first = chance.randrange(b ** (2 * 57)) * b ** 6
            kind = kinds_on(book, 60, first)[57]
            x, y = [place // b ** 3 * b ** 3 for place in cell_of(book, 60, first)]
            inner = begun_at(book, kind)
            for left, low, right, high in some_boxes(seed, b ** 3, 2):
                box = (x + left, y + low, x + right, y + high)
                held = [first + number_of(inner, 3, cell) for cell in cells_of_box((left, low, right, high))]
                for number in [0, first, first + b ** 6 - 1, b ** 120 - 1] + chance.sample(range(b ** 6), 5):
                    number = number if number == b ** 120 - 1 else first + number % b ** 6
                    self.check(book, 60, box, held, number)
                self.assertEqual(next_in(book, 60, box, 0), min(held))
                self.assertEqual(last_in(book, 60, box, b ** 120 - 1), max(held))

    def test_whole_square(self):
        for book in (ROWS, PEANO):
            size = book[0] ** 60
            for number in (0, size, size * size - 1):
                self.assertEqual(next_in(book, 60, (0, 0, size, size), number), number)
                self.assertEqual(last_in(book, 60, (0, 0, size, size), number), number)

    def test_by_hand(self):
        # The right half of the Z-order: the last fourth of each half.
        half = 2 ** 59
        self.assertEqual(next_in(ROWS, 60, (half, 0, 2 * half, 2 * half), 5), half * half)
        self.assertEqual(next_in(ROWS, 60, (half, 0, 2 * half, 2 * half), 2 * half * half), 3 * half * half)
        self.assertEqual(last_in(ROWS, 60, (half, 0, 2 * half, 2 * half), 2 * half * half), 2 * half * half - 1)
        self.assertIs(last_in(ROWS, 60, (half, 0, 2 * half, 2 * half), half * half - 1), None)
        self.assertIs(next_in(ROWS, 60, (0, 0, half, half), half * half), None)

    def test_depth_nought(self):
        self.assertEqual(next_in(BENDS, 0, (0, 0, 1, 1), 0), 0)
        self.assertEqual(last_in(BENDS, 0, (0, 0, 1, 1), 0), 0)

    def test_next_ones_one_by_one(self):
        for book in (BENDS, random_book(2, 3, 20)):
            d = 5 if book[0] == 2 else 3
            numbers = numbers_in_words(book, d)
            for box in some_boxes(9, book[0] ** d, 4):
                held = sorted(numbers[cell] for cell in cells_of_box(box))
                found, number = [], 0
                while number < len(numbers) and (number := next_in(book, d, box, number)) is not None:
                    found.append(number)
                    number += 1
                self.assertEqual(found, held)
                found, number = [], len(numbers) - 1
                while number >= 0 and (number := last_in(book, d, box, number)) is not None:
                    found.append(number)
                    number -= 1
                self.assertEqual(found[::-1], held)


class AtMost(unittest.TestCase):
    def test_against_all_sets_of_numbers(self):
        for book in (ROWS, BENDS, random_book(0, 2, 5), random_book(3, 2, 2)):
            numbers = numbers_in_words(book, 2)
            for box in all_boxes(4):
                held = [numbers[cell] for cell in cells_of_box(box)]
                for most in range(1, len(spans_of(held))):
                    self.assertEqual(at_most(book, 2, box, most), at_most_in_words(16, held, most), (book, box, most))
        for seed in range(3):
            book = random_book(seed, 3, 2)
            numbers = numbers_in_words(book, 1)
            for box in all_boxes(3):
                held = [numbers[cell] for cell in cells_of_box(box)]
                for most in range(1, 7):
                    self.assertEqual(at_most(book, 1, box, most), at_most_in_words(9, held, most), (book, box, most))

    def test_against_all_ways_to_join_spans(self):
        for seed, book in enumerate(small_books() + large_books()):
            d = 3 if book[0] == 2 else 2
            numbers = numbers_in_words(book, d)
            for box in some_boxes(seed, book[0] ** d, 8):
                found = spans_of(numbers[cell] for cell in cells_of_box(box))
                if len(found) > 9:
                    continue
                for most in range(1, len(found) + 3):
                    self.assertEqual(at_most(book, d, box, most), self.best_joined(found, most))

    def best_joined(self, found, most):
        ways = []
        for many in range(min(most, len(found))):
            for cuts in itertools.combinations(range(1, len(found)), many):
                begins, ends = (0,) + cuts, cuts + (len(found),)
                told = tuple((found[k][0], found[j - 1][1]) for k, j in zip(begins, ends))
                ways.append((sum(behind - first for first, behind in told), told))
        return min(ways)[1]

    def test_one_and_more_than_there_are(self):
        for seed, book in enumerate(small_books() + large_books()):
            d = 4 if book[0] == 2 else 3
            for box in some_boxes(seed, book[0] ** d, 4):
                found = spans(book, d, box)
                self.assertEqual(at_most(book, d, box, 1), ((found[0][0], found[-1][1]),))
                for most in (len(found), len(found) + 1, 10 ** 30):
                    self.assertEqual(at_most(book, d, box, most), found)
                if len(found) > 1:
                    self.assertEqual(len(at_most(book, d, box, len(found) - 1)), len(found) - 1)

    def test_first_of_those_as_good(self):
        # The spans 3, 6, 9 and 12: all that is left out between two is as much.
        self.assertEqual(spans(ROWS, 2, (1, 1, 3, 3)), ((3, 4), (6, 7), (9, 10), (12, 13)))
        self.assertEqual(at_most(ROWS, 2, (1, 1, 3, 3), 1), ((3, 13),))
        self.assertEqual(at_most(ROWS, 2, (1, 1, 3, 3), 2), ((3, 4), (6, 13)))
        self.assertEqual(at_most(ROWS, 2, (1, 1, 3, 3), 3), ((3, 4), (6, 7), (9, 13)))
        self.assertEqual(at_most(ROWS, 2, (1, 1, 3, 3), 4), ((3, 4), (6, 7), (9, 10), (12, 13)))
        # A column: cells 1, 3, 9 and 11; the middle is left out first, then the first of the two others.
        self.assertEqual(at_most(ROWS, 2, (1, 0, 2, 4), 2), ((1, 4), (9, 12)))
        self.assertEqual(at_most(ROWS, 2, (1, 0, 2, 4), 3), ((1, 2), (3, 4), (9, 12)))

    def test_depth_nought(self):
        self.assertEqual(at_most(BENDS, 0, (0, 0, 1, 1), 1), ((0, 1),))

    def test_greatest_depth(self):
        for book in (ROWS, PEANO, random_book(0, 3, 20)):
            size = book[0] ** 6
            box = (1, 2, size - 1, size // 2)
            found = spans(book, 6, box)
            between = sorted((other[0] - one[1] for one, other in zip(found, found[1:])))
            for most in (2, 7, min(100, len(found))):
                told = at_most(book, 6, box, most)
                self.assertEqual(len(told), most)
                others = sum(behind - first for first, behind in told) - cells_in(book, 6, box)
                self.assertEqual(others, sum(between[:len(found) - most]))
                for first, behind in found:
                    self.assertTrue(any(one <= first and behind <= other for one, other in told))


class Boxes(unittest.TestCase):
    def test_is_box(self):
        for box in all_boxes(3) + [(0, 0, 10 ** 40, 10 ** 41)]:
            self.assertIs(is_box(box), True)

    def test_no_boxes(self):
        for book, d in ((ROWS, 1), (ROWS, 2), (PEANO, 2), (BENDS, 5)):
            for wrong in wrong_boxes(book[0] ** d):
                with self.assertRaises(InvalidBox, msg=repr(wrong)) as held:
                    spans(book, d, wrong)
                self.assertIs(held.exception.value, wrong)

    def test_just_within_and_just_beyond(self):
        for book in (ROWS, PEANO):
            for d in (0, 1, 60):
                size = book[0] ** d
                for box in ((0, 0, size, size), (size - 1, size - 1, size, size)):
                    self.assertEqual(cells_in(book, d, box), (box[2] - box[0]) ** 2)
                for box in ((0, 0, size + 1, size), (0, 0, size, size + 1), (size, 0, size + 1, 1), (0, size, 1, size),
                            (-1, 0, size, size), (0, -1, size, size), (0, 0, 0, 1), (0, 0, 1, 0)):
                    for function in (cells_in, how_many):
                        self.assertRaises(InvalidBox, function, book, d, box)


if __name__ == "__main__":
    unittest.main()
