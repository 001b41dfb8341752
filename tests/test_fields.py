"""fields.py: squares side by side, with one thread through all of them."""

import random
import unittest

from samples import (
    BENDS, PEANO, RING_OF_BENDS, ROWS, cell_in_words, cells_in_words, copies, field_cells_in_words, large_books,
    leaps_in_words, near, nearly_right_book, random_book, small_books, wrong_fields,
)
from squarethreads.books import backward
from squarethreads.errors import InvalidCell, InvalidNumber
from squarethreads.fields import field_cell, field_number, first_leap_of, is_field, is_path_field, row_field
from squarethreads.paths import first_leap, is_path
from squarethreads.threads import cell_of, number_of
from test_paths import AllDepths, broken_far_down, late_step, two_rounds

# Three squares round a corner by bends: up, over, and down.
AROUND = (BENDS, ((0, 0, 1), (0, 1, 0), (1, 1, 3)))


def random_field(seed, book, many, side):
    """A field of so many squares of a part of the plane with sides of so many, the same one for the same seed."""
    chance = random.Random(f"field {seed} {many} {side}")
    places = chance.sample([(x, y) for x in range(side) for y in range(side)], many)
    return (book, tuple((x, y, chance.randrange(len(book[1]))) for x, y in places))


def snake_field(seed, book, many):
    """A field whose squares all have a side in common with the next one."""
    chance = random.Random(f"snake {seed} {many}")
    x, y = 10, 10
    squares = [(x, y, chance.randrange(len(book[1])))]
    while len(squares) < many:
        ways = [(x + 1, y), (x - 1, y), (x, y + 1), (x, y - 1)]
        free = [way for way in ways if way not in [square[:2] for square in squares]]
        if not free:
            return snake_field(f"{seed} again", book, many)
        x, y = chance.choice(free)
        squares.append((x, y, chance.randrange(len(book[1]))))
    return (book, tuple(squares))


def small_fields():
    fields = [AROUND]
    for book in small_books() + large_books():
        fields += [row_field(book, 0, many) for many in (1, 3)]
        fields += [random_field(0, book, 1, 21), random_field(1, book, 3, 3), random_field(2, book, 4, 21)]
        fields += [snake_field(0, book, 3), snake_field(1, book, 5)]
    return fields


def first_leap_in_words(field, deepest=62):
    """The least depth with a leap and the first one's number, depth by depth, from what AllDepths tells."""
    book, squares = field
    told = AllDepths(book, deepest)
    for d in range(deepest + 1):
        number = told.leaps_of(squares, d)[1]
        if number is not None:
            return (d, number)
    return None


class IsField(unittest.TestCase):
    def test_fields(self):
        for field in small_fields():
            self.assertIs(is_field(field), True)
            self.assertIs(is_field(told=field), True)
        self.assertIs(is_field((BENDS, ((20, 20, 3),))), True)
        self.assertIs(is_field((random_book(1, 3, 20), tuple((19 - k, k, 19 - k) for k in range(12)))), True)
        # Bounds of callers are no errors.
        self.assertIs(is_field((BENDS, tuple((k, 99, k % 4) for k in range(40)))), True)

    def test_no_fields(self):
        for told in wrong_fields():
            self.assertIs(is_field(told), False, repr(told))
            self.assertIs(is_field(told=told), False)

    def test_kinds_are_the_book_s(self):
        for many in (1, 2, 20):
            book = random_book(1, 2, many)
            self.assertIs(is_field((book, ((0, 0, many - 1),))), True)
            self.assertIs(is_field((book, ((0, 0, many),))), False)

    def test_one_place_twice(self):
        self.assertIs(is_field((BENDS, ((0, 0, 0), (0, 1, 0), (0, 0, 0)))), False)
        self.assertIs(is_field((BENDS, ((0, 0, 0), (0, 1, 0), (0, 0, 1)))), False)


class Numbers(unittest.TestCase):
    def test_against_the_words(self):
        for field in small_fields():
            for d in range(4 if field[0][0] == 2 else 3):
                cells = field_cells_in_words(field, d)
                for number in range(0, len(cells), 1 + len(cells) // 50):
                    self.assertEqual(field_cell(field, d, number), cells[number])
                    self.assertEqual(field_number(field, d, cells[number]), number)
                    self.assertEqual(field_cell(field=field, d=d, number=number), cells[number])
                    self.assertEqual(field_number(field=field, d=d, cell=cells[number]), number)
                self.assertEqual(field_cell(field, d, len(cells) - 1), cells[-1])

    def test_all_cells_of_one(self):
        for field in (AROUND, random_field(3, PEANO, 4, 3), random_field(4, random_book(3, 2, 20), 12, 4)):
            for d in range(4):
                cells = field_cells_in_words(field, d)
                self.assertEqual([field_cell(field, d, number) for number in range(len(cells))], cells)
                self.assertEqual([field_number(field, d, cell) for cell in cells], list(range(len(cells))))

    def test_cells_that_are_none(self):
        for field in (AROUND, random_field(5, PEANO, 3, 3), row_field(ROWS, 0, 2)):
            for d in range(3):
                cells = set(field_cells_in_words(field, d))
                side = 4 * field[0][0] ** d
                for x in range(-1, side):
                    for y in range(-1, side):
                        if (x, y) in cells:
                            self.assertEqual(field_cell(field, d, field_number(field, d, (x, y))), (x, y))
                        else:
                            with self.assertRaises(InvalidCell) as held:
                                field_number(field, d, (x, y))
                            self.assertEqual(held.exception.value, (x, y))
                for number in (-1, len(cells), len(cells) + 1, 10 ** 40):
                    self.assertRaises(InvalidNumber, field_cell, field, d, number)

    def test_depth_nought(self):
        self.assertEqual([field_cell(AROUND, 0, number) for number in range(3)], [(0, 0), (0, 1), (1, 1)])
        self.assertEqual([field_number(AROUND, 0, cell) for cell in ((0, 0), (0, 1), (1, 1))], [0, 1, 2])
        far = (ROWS, ((20, 3, 0),))
        self.assertEqual([field_cell(far, 0, 0), field_number(far, 0, (20, 3))], [(20, 3), 0])

    def test_one_square_is_the_thread(self):
        for book in small_books():
            field = row_field(book, 0, 1)
            for d in (0, 1, 3, 60):
                for number in (0, book[0] ** (2 * d) // 3, book[0] ** (2 * d) - 1):
                    cell = cell_of(book, d, number)
                    self.assertEqual(field_cell(field, d, number), cell)
                    self.assertEqual(field_number(field, d, cell), number_of(book, d, cell))

    def test_great_depths(self):
        for field in small_fields():
            book, squares = field
            for d in (17, 59, 60):
                share, size = book[0] ** (2 * d), book[0] ** d
                for at, (x, y, kind) in enumerate(squares):
                    for inside in (0, 1, share // 3, share - 1):
                        u, v = cell_in_words(book, d, inside, kind)
                        cell = (x * size + u, y * size + v)
                        self.assertEqual(field_cell(field, d, at * share + inside), cell)
                        self.assertEqual(field_number(field, d, cell), at * share + inside)
                self.assertRaises(InvalidNumber, field_cell, field, d, share * len(squares))
                x, y = max(square[0] for square in squares), max(square[1] for square in squares)
                self.assertRaises(InvalidCell, field_number, field, d, ((x + 1) * size, y * size))
                self.assertRaises(InvalidCell, field_number, field, d, (x * size, (y + 1) * size))

    def test_by_hand(self):
        # Squares of four cells, the first one at the right, the second one at the left.
        field = (ROWS, ((1, 0, 0), (0, 0, 0)))
        self.assertEqual([field_cell(field, 1, number) for number in range(8)],
                         [(2, 0), (3, 0), (2, 1), (3, 1), (0, 0), (1, 0), (0, 1), (1, 1)])


class Leaps(unittest.TestCase):
    def check(self, field):
        told = first_leap_in_words(field)
        self.assertEqual(first_leap_of(field), told, field)
        self.assertEqual(first_leap_of(field=field), told)
        self.assertIs(is_path_field(field), told is None)
        self.assertIs(is_path_field(field=field), told is None)
        return told

    def test_small_depths_in_words(self):
        for field in small_fields():
            found = [leaps_in_words(field_cells_in_words(field, d)) for d in range(4 if field[0][0] == 2 else 3)]
            with_leaps = [d for d in range(len(found)) if found[d]]
            told = first_leap_of(field)
            if with_leaps:
                self.assertEqual(told, (with_leaps[0], found[with_leaps[0]][0]))
            else:
                self.assertTrue(told is None or told[0] >= len(found))
            self.assertIs(is_path_field(field), told is None)

    def test_at_all_depths(self):
        for field in small_fields():
            self.check(field)

    def test_many_fields(self):
        depths = []
        for seed in range(150):
            for book in (BENDS, PEANO, RING_OF_BENDS):
                depths.append((self.check(snake_field(seed, book, 1 + seed % 5)) or (None,))[0])
        self.assertTrue({None, 0, 1, 2} >= set(depths) >= {None, 1}, set(depths))

    def test_many_nearly_right_books(self):
        for seed in range(60):
            for book in (BENDS, PEANO):
                self.check(snake_field(seed, nearly_right_book(seed, book, 4), 1 + seed % 4))

    def test_depth_nought(self):
        # The first square that has no side in common with the next one, from 0 on.
        for squares, number in (
            (((0, 0, 0), (2, 0, 0)), 0), (((0, 0, 0), (1, 1, 0)), 0), (((1, 0, 0), (0, 1, 0)), 0),
            (((0, 0, 0), (1, 0, 0), (3, 0, 0)), 1), (((5, 5, 0), (5, 6, 0), (5, 7, 0), (5, 9, 0), (20, 20, 0)), 2),
        ):
            for book in (ROWS, BENDS, PEANO):
                self.assertEqual(first_leap_of((book, squares)), (0, number))
                self.assertIs(is_path_field((book, squares)), False)

    def test_squares_both_ways(self):
        # Bends of kind 0 end below on the right: the next square stands there on the right, not on the left.
        self.assertEqual(first_leap_of((BENDS, ((0, 0, 0), (1, 0, 0)))), None)
        self.assertEqual(first_leap_of((BENDS, ((1, 0, 0), (0, 0, 0)))), (1, 3))
        self.assertEqual(first_leap_of((BENDS, ((0, 0, 0), (0, 1, 0)))), (1, 3))
        self.assertEqual(first_leap_of((BENDS, ((0, 1, 0), (0, 0, 0)))), (1, 3))
        self.assertEqual(first_leap_of((backward(BENDS), ((1, 0, 0), (0, 0, 0)))), None)
        # Three squares round a corner, and the same three in another sequence.
        self.assertEqual(first_leap_of(AROUND), first_leap_in_words(AROUND))
        self.assertEqual(first_leap_of((BENDS, AROUND[1][::-1])), first_leap_in_words((BENDS, AROUND[1][::-1])))

    def test_one_square(self):
        for book in small_books() + large_books():
            for kind in range(len(book[1])):
                self.check((book, ((3, 4, kind),)))
            self.assertEqual(first_leap_of(row_field(book, 0, 1)), first_leap(book))
            self.assertIs(is_path_field(row_field(book, 0, 1)), is_path(book))

    def test_kind_nought_has_no_other_part_than_the_others(self):
        # Kind 0 has leaps, but no square leads to it.
        book = (2, (tuple((x, y, 0) for x, y, _ in ROWS[1][0]),) + tuple(
            tuple((x, y, kind + 1) for x, y, kind in parts) for parts in BENDS[1]))
        self.assertEqual(first_leap_of((book, ((0, 0, 1), (1, 0, 1)))), None)
        self.assertEqual(first_leap_of((book, ((0, 0, 1), (1, 0, 0)))), (1, 5))

    def test_first_of_several(self):
        # At depth 1 the third square has a leap inside, the step behind the second one is a leap.
        rows_and_bends = (2, BENDS[1] + (tuple((x, y, 4) for x, y, _ in ROWS[1][0]),))
        self.assertEqual(first_leap_of((rows_and_bends, ((0, 0, 0), (1, 0, 0), (2, 0, 4)))), (1, 9))
        self.assertEqual(first_leap_of((rows_and_bends, ((0, 0, 0), (1, 0, 1), (2, 0, 4)))), (1, 7))
        self.assertEqual(first_leap_of((rows_and_bends, ((0, 0, 4), (1, 0, 1), (1, 1, 2)))), (1, 1))
        # A leap at depth 0 comes before all others, be they of lesser numbers.
        self.assertEqual(first_leap_of((rows_and_bends, ((0, 0, 4), (1, 0, 1), (3, 1, 2)))), (0, 1))

    def test_late_ones(self):
        for many in range(1, 14):
            self.assertEqual(self.check((late_step(many), ((0, 0, 0),))), (many + 2, 4 ** (many + 1) - 1))
            # The kind 5 goes up, and turns away far down: the step to the square above is a leap there.
            squares = ((7, 3, 5), (7, 4, 1))
            self.assertEqual(self.check((late_step(many), squares)), (many + 1, 4 ** (many + 1) - 1))
            squares = ((6, 3, 1), (7, 3, 5), (7, 4, 1))
            self.assertEqual(self.check((late_step(many), squares)), (many + 1, 2 * 4 ** (many + 1) - 1))
        for many in range(14):
            told = self.check((broken_far_down(many), ((0, 0, 0),)))
            self.assertEqual(told, (many + 1, sum(4 * 9 ** k for k in range(1, many + 1))))
        self.check((two_rounds(8, 11), ((0, 0, 1), (1, 0, 9))))
        self.check((copies(BENDS, 5, backward(BENDS)), ((0, 0, 0), (1, 0, 0))))
        self.check((copies(BENDS, 5, backward(BENDS)), ((1, 0, 16), (0, 0, 16))))

    def test_the_first_leap_is_one(self):
        for field in small_fields():
            found = first_leap_of(field)
            if found is not None:
                d, number = found
                self.assertFalse(near(field_cell(field, d, number), field_cell(field, d, number + 1)))

    def test_twelve_squares(self):
        for book in (BENDS, PEANO, random_book(1, 3, 20)):
            self.check(row_field(book, 0, 12))
            self.check(random_field(7, book, 12, 21))
        self.assertIs(is_path_field(row_field(BENDS, 0, 12)), True)


class Rows(unittest.TestCase):
    def test_row_field(self):
        for book in (ROWS, BENDS, PEANO, random_book(5, 2, 20)):
            for kind in (0, len(book[1]) - 1):
                for many in (1, 2, 12, 20, 30):
                    field = (book, tuple((x, 0, kind) for x in range(many)))
                    self.assertEqual(row_field(book, kind, many), field)
                    self.assertEqual(row_field(book=book, kind=kind, many=many), field)
                    self.assertIs(is_field(row_field(book, kind, many)), True)

    def test_the_book_as_it_is(self):
        # Kinds that nothing leads to stay where they are.
        book = (2, ROWS[1] + BENDS[1][:3])
        self.assertIs(row_field(book, 2, 3)[0], book)
        self.assertEqual(row_field(book, 2, 3), (book, ((0, 0, 2), (1, 0, 2), (2, 0, 2))))


class Answers(unittest.TestCase):
    def test_sorts_of_values(self):
        for d in (0, 2):
            cell = field_cell(AROUND, d, 1)
            self.assertEqual([type(cell), type(cell[0]), type(cell[1])], [tuple, int, int])
            self.assertIs(type(field_number(AROUND, d, cell)), int)
        told = first_leap_of((ROWS, ((0, 0, 0), (0, 2, 0))))
        self.assertEqual([type(told), type(told[0]), type(told[1])], [tuple, int, int])
        self.assertEqual({type(is_path_field(AROUND)), type(is_field(AROUND)), type(is_field(None))}, {bool})
        field = row_field(ROWS, 0, 2)
        self.assertEqual([type(field), type(field[1]), type(field[1][0])], [tuple, tuple, tuple])

    def test_fields_in_words_are_right(self):
        self.assertEqual(field_cells_in_words(AROUND, 0), [(0, 0), (0, 1), (1, 1)])
        self.assertEqual(field_cells_in_words((BENDS, ((0, 0, 2),)), 2), cells_in_words(BENDS, 2, 2))


if __name__ == "__main__":
    unittest.main()
