"""stores.py: stored cells, and what of them lies in a box or near a cell."""

import random
import unittest

from samples import (
    BENDS, PEANO, ROWS, cell_in_words, cells_in_words, large_books, numbers_in_words, random_book, small_books,
    some_boxes, some_stores, wrong_stores,
)
from squarethreads.errors import InvalidCell, InvalidStore
from squarethreads.spans import at_most, how_many, next_in
from squarethreads.stores import asked, in_box, is_store, leapt, nearest, store_of
from squarethreads.threads import cell_of, number_of

SOME = store_of(ROWS, 2, [(0, 0), (1, 1), (3, 1), (2, 2), (3, 3)])


def is_in(box, cell):
    """Whether a cell is in a box."""
    return box[0] <= cell[0] < box[2] and box[1] <= cell[1] < box[3]


def box_around(store, chance):
    """A box that has some of a store's cells, if there are any."""
    book, d, numbers = store
    size = book[0] ** d
    if not numbers:
        return (0, 0, size, size)
    x, y = cell_in_words(book, d, chance.choice(numbers))
    far = size // chance.choice((2, 3, 9)) + 1
    left, low = max(0, x - chance.randrange(far)), max(0, y - chance.randrange(far))
    return (left, low, min(size, x + chance.randrange(far) + 1), min(size, y + chance.randrange(far) + 1))


def boxes_of(store, many=4):
    """Some boxes for a store: the whole square, its sides, a corner, and more."""
    chance = random.Random(f"{store[1]} {len(store[2])}")
    return some_boxes(many, store[0][0] ** store[1], 2) + [box_around(store, chance) for _ in range(many)]


class IsStore(unittest.TestCase):
    def test_stores(self):
        for store in some_stores():
            self.assertIs(is_store(store), True)
            self.assertIs(is_store(told=store), True)
        self.assertIs(is_store((BENDS, 60, (0, 4 ** 60 - 1))), True)
        self.assertIs(is_store((BENDS, 0, ())), True)
        self.assertIs(is_store((BENDS, 0, (0,))), True)
        # Bounds of callers are no errors.
        self.assertIs(is_store((BENDS, 70, tuple(range(500)))), True)

    def test_no_stores(self):
        for told in wrong_stores():
            self.assertIs(is_store(told), False, repr(told))
            self.assertIs(is_store(told=told), False)


class StoreOf(unittest.TestCase):
    def test_against_the_words(self):
        for seed, book in enumerate(small_books() + large_books()):
            for d in range(3):
                numbers = numbers_in_words(book, d)
                chance = random.Random(seed)
                for many in (0, 1, 5, 30):
                    cells = [chance.choice(list(numbers)) for _ in range(many)]
                    expected = (book, d, tuple(sorted({numbers[cell] for cell in cells})))
                    self.assertEqual(store_of(book, d, cells), expected)
                    self.assertEqual(store_of(book, d, tuple(cells)), expected)
                    self.assertEqual(store_of(book=book, d=d, cells=cells[::-1]), expected)
                    self.assertEqual(store_of(book, d, cells * 3), expected)
                    self.assertIs(is_store(store_of(book, d, cells)), True)

    def test_greatest_depth(self):
        for book in small_books() + large_books():
            numbers = sorted({(7 * k) ** 19 % book[0] ** 120 for k in range(200)})
            cells = [cell_of(book, 60, number) for number in numbers]
            self.assertEqual(store_of(book, 60, cells[::-1] + cells), (book, 60, tuple(numbers)))

    def test_edges(self):
        self.assertEqual(store_of(BENDS, 0, []), (BENDS, 0, ()))
        self.assertEqual(store_of(BENDS, 0, ()), (BENDS, 0, ()))
        self.assertEqual(store_of(BENDS, 60, []), (BENDS, 60, ()))
        self.assertEqual(store_of(BENDS, 0, [(0, 0), (0, 0)]), (BENDS, 0, (0,)))
        self.assertEqual(store_of(ROWS, 1, [(1, 1), (0, 0), (1, 1), (1, 0)]), (ROWS, 1, (0, 1, 3)))

    def test_the_list_stays_as_it_is(self):
        cells = [(1, 1), (0, 0), (1, 1)]
        store = store_of(ROWS, 1, cells)
        self.assertEqual(cells, [(1, 1), (0, 0), (1, 1)])
        cells.append((1, 0))
        cells[0] = (0, 1)
        self.assertEqual(store, (ROWS, 1, (0, 3)))

    def test_sorts_of_values(self):
        self.assertEqual([type(SOME), type(SOME[0]), type(SOME[1]), type(SOME[2]), type(SOME[2][0])],
                         [tuple, tuple, int, tuple, int])

    def test_wrong_cells(self):
        for d, told in ((1, [(0, 0), (2, 0)]), (1, [(0, 0), (0, 2)]), (1, ((0, 0), [1, 1])), (1, [(-1, 0)]), (0, [(1, 0)]),
                        (1, [None]), (1, [(0, True)]), (1, [(0, 0, 0)]), (1, (0, 0)), (1, None), (1, "00"), (1, ""),
                        (1, {}), (1, {(0, 0): 1}), (1, {(0, 0)}), (1, set()), (1, True), (1, 0), (1, range(0)), (1, b"")):
            with self.assertRaises(InvalidCell) as held:
                store_of(ROWS, d, told)
            self.assertIs(held.exception.value, told)


class InBox(unittest.TestCase):
    def test_against_the_words(self):
        for store in some_stores():
            book, d, numbers = store
            cells = [cell_in_words(book, d, number) for number in numbers]
            for box in boxes_of(store):
                expected = tuple(number for number, cell in zip(numbers, cells) if is_in(box, cell))
                self.assertEqual(in_box(store, box), expected)
                self.assertEqual(in_box(store=store, box=box), expected)

    def test_by_hand(self):
        self.assertEqual(SOME[2], (0, 3, 7, 12, 15))
        self.assertEqual(in_box(SOME, (1, 1, 3, 3)), (3, 12))
        self.assertEqual(in_box(SOME, (0, 0, 4, 4)), SOME[2])
        self.assertEqual(in_box(SOME, (1, 0, 3, 1)), ())
        self.assertEqual(in_box((ROWS, 2, ()), (0, 0, 4, 4)), ())
        self.assertEqual(in_box((ROWS, 0, (0,)), (0, 0, 1, 1)), (0,))

    def test_three_ways_to_find_the_same(self):
        for store in some_stores():
            book, d, numbers = store
            for box in boxes_of(store, 2):
                found = in_box(store, box)
                one_by_one, number = [], 0
                while number < book[0] ** (2 * d):
                    number = next_in(book, d, box, number)
                    if number is None:
                        break
                    behind = [told for told in numbers if told >= number]
                    if number in numbers:
                        one_by_one.append(number)
                        number += 1
                    elif not behind:
                        break
                    else:
                        number = behind[0]
                self.assertEqual(tuple(one_by_one), found)
                if d <= 6:
                    self.assertEqual(asked(store, box, 10 ** 9), (len(found), 0))


class Asked(unittest.TestCase):
    def test_against_the_words(self):
        for store in some_stores():
            book, d, numbers = store
            if d > 6:
                continue
            for box in boxes_of(store):
                for most in (1, 2, 5):
                    spans = at_most(book, d, box, most)
                    held = [number for number in numbers if any(first <= number < behind for first, behind in spans)]
                    inside = [number for number in held if is_in(box, cell_in_words(book, d, number))]
                    expected = (len(inside), len(held) - len(inside))
                    self.assertEqual(asked(store, box, most), expected)
                    self.assertEqual(asked(store=store, box=box, most=most), expected)
                    self.assertEqual(len(inside), len(in_box(store, box)))

    def test_by_hand(self):
        # The spans of the box: 3, 6, 9 and 12, each of one number.
        self.assertEqual(asked(SOME, (1, 1, 3, 3), 1), (2, 1))
        self.assertEqual(asked(SOME, (1, 1, 3, 3), 2), (2, 1))
        self.assertEqual(asked(SOME, (1, 1, 3, 3), 3), (2, 0))
        self.assertEqual(asked(SOME, (1, 1, 3, 3), 4), (2, 0))
        self.assertEqual(asked(SOME, (0, 0, 4, 4), 1), (5, 0))
        self.assertEqual(asked((ROWS, 2, ()), (1, 1, 3, 3), 1), (0, 0))
        self.assertEqual(asked((ROWS, 0, (0,)), (0, 0, 1, 1), 1), (1, 0))
        self.assertEqual(asked((ROWS, 2, tuple(range(16))), (1, 1, 3, 3), 1), (4, 6))
        # None in the box, some in the spans.
        self.assertEqual(asked((ROWS, 2, (4, 5, 13)), (1, 1, 3, 3), 1), (0, 2))

    def test_greatest_depth(self):
        for book in (BENDS, PEANO, random_book(2, 3, 20)):
            size = book[0] ** 6
            numbers = tuple(sorted({k ** 5 % (size * size) for k in range(200)}))
            box = (1, size // 3, size // 2, size - 1)
            inside = len(in_box((book, 6, numbers), box))
            others = []
            for most in (1, 5, 50, how_many(book, 6, box)):
                found, more = asked((book, 6, numbers), box, most)
                self.assertEqual(found, inside)
                others.append(more)
            self.assertEqual(others, sorted(others)[::-1])
            self.assertEqual(others[-1], 0)

    def test_sorts_of_values(self):
        told = asked(SOME, (1, 1, 3, 3), 1)
        self.assertEqual([type(told), type(told[0]), type(told[1])], [tuple, int, int])
        self.assertIs(type(leapt(SOME, (1, 1, 3, 3))), int)
        self.assertIs(type(leapt((ROWS, 2, ()), (1, 1, 3, 3))), int)
        self.assertEqual([type(told) for told in (in_box(SOME, (0, 0, 1, 1)), nearest(SOME, (0, 0), 1))], [tuple, tuple])


class Leapt(unittest.TestCase):
    def in_words(self, store, box):
        """How many are looked at, the sentence of the document step by step."""
        book, d, numbers = store
        looked_at, waiting = 0, list(numbers)
        while waiting:
            number = waiting.pop(0)
            looked_at += 1
            if not is_in(box, cell_in_words(book, d, number)):
                least = next_in(book, d, box, number)
                waiting = [] if least is None else [told for told in waiting if told >= least]
        return looked_at

    def test_against_the_words(self):
        fewer = 0
        for store in some_stores():
            for box in boxes_of(store):
                expected = self.in_words(store, box)
                self.assertEqual(leapt(store, box), expected)
                self.assertEqual(leapt(store=store, box=box), expected)
                self.assertGreaterEqual(expected, len(in_box(store, box)))
                fewer += expected < len(store[2])
        self.assertGreater(fewer, 100)

    def test_by_hand(self):
        self.assertEqual(leapt(SOME, (1, 1, 3, 3)), 5)
        self.assertEqual(leapt(SOME, (0, 0, 4, 4)), 5)
        # The first one alone, and no other behind it.
        self.assertEqual(leapt(SOME, (0, 0, 1, 1)), 2)
        self.assertEqual(leapt(SOME, (3, 3, 4, 4)), 2)
        self.assertEqual(leapt(SOME, (1, 0, 2, 1)), 2)
        self.assertEqual(leapt((ROWS, 2, (7, 8, 9)), (0, 0, 1, 1)), 1)
        self.assertEqual(leapt((ROWS, 2, ()), (0, 0, 1, 1)), 0)
        self.assertEqual(leapt((ROWS, 0, ()), (0, 0, 1, 1)), 0)
        self.assertEqual(leapt((ROWS, 0, (0,)), (0, 0, 1, 1)), 1)
        # All sixteen in the box of 3, 6, 9 and 12: 0, 3, 4, 6, 7, 9, 10, 12, 13.
        self.assertEqual(leapt((ROWS, 2, tuple(range(16))), (1, 1, 3, 3)), 9)

    def test_one_cell_of_the_greatest_depth(self):
        for book in (ROWS, PEANO, random_book(2, 2, 20)):
            many = book[0] ** 120
            numbers = tuple(k * (many // 200) for k in range(200))
            for at in (0, 1, 77, 199):
                x, y = cell_of(book, 60, numbers[at])
                # The first one, the one in the box, and the one behind it.
                expected = 1 + (at > 0) + (at < 199)
                self.assertEqual(leapt((book, 60, numbers), (x, y, x + 1, y + 1)), expected)


class Nearest(unittest.TestCase):
    def test_against_the_words(self):
        for store in some_stores():
            book, d, numbers = store
            size = book[0] ** d
            cells = {number: cell_in_words(book, d, number) for number in numbers}
            for x, y in ((0, 0), (size - 1, 0), (size // 2, size // 3), (size - 1, size - 1)):
                far = sorted((abs(cells[number][0] - x) + abs(cells[number][1] - y), number) for number in numbers)
                for k in (1, 2, 10, len(numbers), len(numbers) + 1, 10 ** 30):
                    if k > 0:
                        expected = tuple(number for _, number in far[:k])
                        self.assertEqual(nearest(store, (x, y), k), expected)
                        self.assertEqual(nearest(store=store, cell=(x, y), k=k), expected)

    def test_by_hand(self):
        self.assertEqual(nearest(SOME, (2, 1), 1), (3,))
        self.assertEqual(nearest(SOME, (2, 1), 2), (3, 7))
        self.assertEqual(nearest(SOME, (2, 1), 3), (3, 7, 12))
        self.assertEqual(nearest(SOME, (2, 1), 9), (3, 7, 12, 0, 15))
        self.assertEqual(nearest(SOME, (3, 3), 2), (15, 7))
        self.assertEqual(nearest((ROWS, 2, ()), (2, 1), 3), ())
        self.assertEqual(nearest((ROWS, 0, (0,)), (0, 0), 3), (0,))

    def test_equally_near_ones(self):
        # All four neighbors of a cell, then those that are two steps away, by number.
        full = (BENDS, 2, tuple(range(16)))
        cells = cells_in_words(BENDS, 2)
        near_ones = sorted(cells.index(cell) for cell in ((0, 1), (2, 1), (1, 0), (1, 2)))
        further = sorted(cells.index(cell) for cell in ((0, 0), (2, 0), (0, 2), (2, 2), (3, 1), (1, 3)))
        self.assertEqual(nearest(full, (1, 1), 11), (cells.index((1, 1)), *near_ones, *further))
        for k in range(1, 12):
            self.assertEqual(nearest(full, (1, 1), k), nearest(full, (1, 1), 11)[:k])

    def test_by_sums_not_by_squares(self):
        # (3, 0) is nearer to (0, 0) than (2, 2) by the sum of the differences, not as the crow flies.
        store = store_of(ROWS, 2, [(3, 0), (2, 2)])
        self.assertEqual(nearest(store, (0, 0), 2), (number_of(ROWS, 2, (3, 0)), number_of(ROWS, 2, (2, 2))))
        store = store_of(ROWS, 3, [(5, 0), (3, 3)])
        self.assertEqual(nearest(store, (0, 0), 2), (number_of(ROWS, 3, (5, 0)), number_of(ROWS, 3, (3, 3))))
        store = store_of(ROWS, 3, [(6, 0), (3, 2)])
        self.assertEqual(nearest(store, (0, 0), 1), (number_of(ROWS, 3, (3, 2)),))


class Errors(unittest.TestCase):
    def test_the_store_comes_first(self):
        for wrong in wrong_stores()[::7]:
            for function, more in ((in_box, (None,)), (asked, (None, None)), (leapt, (None,)), (nearest, (None, None))):
                with self.assertRaises(InvalidStore) as held:
                    function(wrong, *more)
                self.assertIs(held.exception.value, wrong)


if __name__ == "__main__":
    unittest.main()
