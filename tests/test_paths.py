"""paths.py: steps, leaps, paths and rings at all depths, and where threads end."""

import random
import unittest

from samples import (
    BENDS, PEANO, RING_OF_BENDS, ROWS, cell_in_words, cells_in_words, chain, copies, large_books, leaps_in_words, near,
    nearly_right_book, random_book, small_books,
)
from squarethreads.books import backward, begun_at, turned
from squarethreads.paths import ends, first_leap, is_path, is_path_at, is_ring, leap_depth_of_step, leaps
from squarethreads.threads import cell_of

# All first leaps of books of twenty kinds come before this depth: the longest ways are tested one by one below.
DEEPEST = 62


class AllDepths:
    """What [5] tells of all depths to the deepest, part by part: leaps, and the first one of each kind and depth."""

    def __init__(self, book, deepest=DEEPEST):
        self.b, self.kinds = book
        self.firsts = [[(0, 0)] for _ in self.kinds]
        self.lasts = [[(0, 0)] for _ in self.kinds]
        self.counts = [[0] for _ in self.kinds]
        self.first_leaps = [[None] for _ in self.kinds]
        for d in range(1, deepest + 1):
            rows = [(self.moved(parts[0], d - 1, self.firsts), self.moved(parts[-1], d - 1, self.lasts),
                     *self.leaps_of(parts, d - 1)) for parts in self.kinds]
            for kind, row in enumerate(rows):
                told = (self.firsts[kind], self.lasts[kind], self.counts[kind], self.first_leaps[kind])
                for answers, answer in zip(told, row):
                    answers.append(answer)

    def moved(self, part, d, cells):
        x, y, kind = part
        u, v = cells[kind][d]
        return (x * self.b ** d + u, y * self.b ** d + v)

    def leaps_of(self, parts, d):
        """How many steps through parts of depth d are leaps, and the number of the first one."""
        share = self.b ** (2 * d)
        many, found = 0, None
        for k, part in enumerate(parts):
            many += self.counts[part[2]][d]
            inside = self.first_leaps[part[2]][d]
            if found is None and inside is not None:
                found = k * share + inside
            if k + 1 < len(parts):
                if not near(self.moved(part, d, self.lasts), self.moved(parts[k + 1], d, self.firsts)):
                    many += 1
                    if found is None:
                        found = (k + 1) * share - 1
        return many, found

    def first_leap(self, kind=0):
        for d, number in enumerate(self.first_leaps[kind]):
            if number is not None:
                return (d, number)
        return None

    def is_ring(self, kind=0):
        return self.first_leap(kind) is None and all(
            near(one, other) for one, other in zip(self.firsts[kind][1:], self.lasts[kind][1:]))

    def corner(self, cells):
        """The corner at which all of the cells are, of the depths from 0 on."""
        corners = set()
        for d, (x, y) in list(enumerate(cells))[1:]:
            top = self.b ** d - 1
            corners.add((x // top, y // top) if x in (0, top) and y in (0, top) else None)
        return corners.pop() if len(corners) == 1 else None

    def ends(self, kind):
        return (self.corner(self.firsts[kind]), self.corner(self.lasts[kind]))


# One sequence, the kinds with their twins: the two kinds of each pair have one thread.
TWIN_BENDS = (2, BENDS[1][:2] + tuple(
    tuple((x, y, (kind + 4 if k % 2 else kind)) for k, (x, y, kind) in enumerate(parts)) for parts in BENDS[1][2:]
) + tuple(tuple((x, y, (kind if k % 2 else kind + 4)) for k, (x, y, kind) in enumerate(parts)) for parts in BENDS[1]))
# Near at depth 1, and leaps from depth 2 on, though first and last cell are near at depth 1.
CUP = (2, (((0, 0, 0), (0, 1, 0), (1, 1, 0), (1, 0, 0)),))
# Begins at the side's middle.
MIDDLE = (3, (((1, 0, 0), (0, 0, 0), (0, 1, 0), (0, 2, 0), (1, 2, 0), (1, 1, 0), (2, 1, 0), (2, 2, 0), (2, 0, 0)),))


def with_lonely_leaps(book):
    """The same thread with kinds that have leaps, and to which nothing leads."""
    b, kinds = book
    places = [(x, y) for y in range(b) for x in range(b)][::-1]
    return (b, kinds + (tuple((x, y, 0) for x, y in places), tuple((x, y, len(kinds)) for x, y in places)))


def late_books():
    """Books of up to twenty kinds, most with a first leap at some later depth."""
    books = [copies(BENDS, 5), copies(BENDS, 5, backward(BENDS)), copies(PEANO, 5, turned(PEANO, (1, 0)))]
    books += [copies(RING_OF_BENDS, 4), copies(BENDS, 5, turned(BENDS, (0, 1))), copies(PEANO, 5, backward(PEANO))]
    for seed in range(60):
        for book in (BENDS, PEANO, RING_OF_BENDS):
            books.append(nearly_right_book(seed, book, 4 + seed % 2 if len(book[1]) == 4 else 2 + seed % 3))
    return books


# Two kinds that begin, and end, at the corner below on the right, or on the left, at all depths.
ENDS_LOW = (
    ((1, 0, 1), (0, 0, 1), (0, 1, 1), (1, 1, 1)),
    ((1, 1, 2), (0, 1, 2), (1, 0, 2), (0, 0, 2)),
)


def broken_far_down(many):
    """Peano's thread in whose middle, many times one inside the other, is a kind with two parts exchanged."""
    way = []
    for k in range(many + 1):
        # Kinds 0 and 3 of Peano have each other in the middle.
        parts = list(PEANO[1][3 * (k % 2)])
        parts[4] = parts[4][:2] + (5 + k,)
        if k == many:
            parts = list(PEANO[1][3 * (k % 2)])
            parts[1], parts[2] = parts[2], parts[1]
        way.append(tuple(parts))
    return begun_at((3, PEANO[1] + tuple(way)), 4)


def late_step(many):
    """Bends but for one step of kind 0: the thread before it goes a way of many kinds, then ends elsewhere."""
    bends = [tuple((x, y, kind + 1) for x, y, kind in parts) for parts in BENDS[1]]
    return (2, (((0, 0, 5), (0, 1, 1), (1, 1, 1), (1, 0, 3)), *bends, *way_of_ends(bends, 5, many)))


def way_of_ends(bends, first, many):
    """Kinds from an index on, by turns as bends' kinds 1 and 3, each with the next one as its last part.

    Behind the last one stands a kind that begins at the right corner, but ends at another one: 2 for 3, 0 for 1.
    """
    way = []
    for k in range(many):
        parts = bends[1 + 2 * (k % 2)]
        below = first + k + 1 if k < many - 1 else (3, 1)[k % 2]
        way.append(parts[:-1] + (parts[-1][:2] + (below,),))
    return way


def two_rounds(one, other, word=None):
    """Kind 0 has two parts side by side: the last cells of the one go round so many kinds, the first ones of the other.

    The heights of both are the same for one + other - 2 depths, and then not: the longest two rounds can be so.
    """
    word = word or longest_word(one, other)
    left = [((0, 0, 0), (0, 1, 0), (1, 1 - word[k], 0), (1, word[k], 1 + (k + 1) % one)) for k in range(one)]
    right = [((0, word[k], 1 + one + (k + 1) % other), (0, 1 - word[k], 0), (1, 0, 0), (1, 1, 0)) for k in range(other)]
    return (2, (((0, 0, 1), (1, 0, 1 + one), (1, 1, 0), (0, 1, 0)), *left, *right))


def longest_word(one, other):
    """The word of noughts and ones that comes round by both lengths, which have no factor in common."""
    length = one + other - 2
    letters = list(range(length))
    for _ in range(length):
        for k in range(length):
            for j in (k + one, k + other):
                if j < length:
                    letters[k] = letters[j] = min(letters[k], letters[j])
    return [int(letter == letters[0]) for letter in letters]


def late_ring(many):
    """Moore's ring but for its last part: the thread there goes a way of many kinds, and ends elsewhere behind them."""
    kinds = list(RING_OF_BENDS[1])
    kinds[0] = kinds[0][:-1] + (kinds[0][-1][:2] + (5,),)
    for k in range(many):
        # By turns as kinds 2 and 1, each with the other one as its last part; 3 begins as 1 does, and 4 as 2 does.
        parts = kinds[2 - k % 2]
        below = 6 + k if k < many - 1 else 3 + k % 2
        kinds.append(parts[:-1] + (parts[-1][:2] + (below,),))
    return (2, tuple(kinds))


class SmallDepths(unittest.TestCase):
    def test_leaps(self):
        for book in small_books() + large_books() + late_books()[:12]:
            for d in range(5 if book[0] == 2 else 4):
                found = leaps_in_words(cells_in_words(book, d))
                self.assertEqual(leaps(book, d), len(found))
                self.assertEqual(leaps(book=book, d=d), len(found))
                self.assertIs(is_path_at(book, d), found == [])
                self.assertIs(is_path_at(book=book, d=d), found == [])

    def test_first_leap(self):
        for book in small_books() + large_books() + [CUP, MIDDLE]:
            told = first_leap(book)
            self.assertEqual(first_leap(book=book), told)
            found = [leaps_in_words(cells_in_words(book, d)) for d in range(5 if book[0] == 2 else 4)]
            with_leaps = [d for d in range(len(found)) if found[d]]
            if with_leaps:
                self.assertEqual(told, (with_leaps[0], found[with_leaps[0]][0]))
            else:
                self.assertTrue(told is None or told[0] >= len(found))
            self.assertIs(is_path(book), told is None)
            self.assertIs(is_path(book=book), told is None)

    def test_many_books(self):
        chance = random.Random("paths")
        snakes = {2: [CUP, BENDS], 3: [PEANO, MIDDLE]}
        for _ in range(400):
            b, many = chance.choice((2, 3)), chance.randrange(1, 6)
            sequences = [[part[:2] for part in parts] for book in snakes[b] for parts in book[1]]
            book = (b, tuple(tuple((x, y, chance.randrange(many)) for x, y in chance.choice(sequences))
                             for _ in range(many)))
            told = AllDepths(book, 20)
            self.assertEqual(first_leap(book), told.first_leap())
            self.assertIs(is_ring(book), told.is_ring())
            self.assertEqual([ends(book, kind) for kind in range(many)], [told.ends(kind) for kind in range(many)])
            self.assertEqual([leaps(book, d) for d in range(21)], told.counts[0])

    def test_depth_nought(self):
        for book in small_books() + large_books():
            self.assertEqual(leaps(book, 0), 0)
            self.assertIs(is_path_at(book, 0), True)

    def test_rows(self):
        self.assertEqual([leaps(ROWS, d) for d in range(4)], [0, 1, 7, 31])
        self.assertEqual([is_path(ROWS), is_path_at(ROWS, 0), is_path_at(ROWS, 1)], [False, True, False])
        self.assertEqual([first_leap(ROWS), is_ring(ROWS)], [(1, 1), False])

    def test_a_leap_between_far_places(self):
        places = ((0, 0), (1, 0), (1, 2), (1, 1), (0, 1), (0, 2), (2, 2), (2, 1), (2, 0))
        apart = (3, (tuple((x, y, 0) for x, y in places),))
        self.assertEqual([first_leap(apart), leaps(apart, 1)], [(1, 1), 2])

    def test_a_leap_over_a_corner(self):
        over = (2, (((0, 0, 0), (1, 0, 0), (0, 1, 0), (1, 1, 0)),))
        self.assertEqual([first_leap(over), leaps(over, 1)], [(1, 1), 1])
        self.assertEqual(first_leap((2, (((0, 0, 0), (1, 1, 0), (0, 1, 0), (1, 0, 0)),))), (1, 0))

    def test_a_leap_at_depth_two(self):
        self.assertEqual(first_leap(CUP), (2, 3))
        # Of the three steps between the cups the one in the middle leads from (1, 2) to (2, 2).
        self.assertEqual([leaps(CUP, 1), leaps(CUP, 2)], [0, 2])
        self.assertEqual([is_path_at(CUP, 1), is_path_at(CUP, 2)], [True, False])
        self.assertEqual([is_path(CUP), is_ring(CUP)], [False, False])


class GreatDepths(unittest.TestCase):
    @classmethod
    def setUpClass(cls):
        cls.books = small_books() + large_books() + late_books() + [CUP, MIDDLE, TWIN_BENDS]
        cls.told = [AllDepths(book) for book in cls.books]

    def test_first_leap(self):
        depths = []
        for book, told in zip(self.books, self.told):
            self.assertEqual(first_leap(book), told.first_leap(), book)
            self.assertIs(is_path(book), told.first_leap() is None)
            depths += [(first_leap(book) or (0,))[0]]
        # The books are such that the first leap comes early, late, and never.
        self.assertTrue({0, 1, 2, 3, 4, 5, 6} <= set(depths), sorted(set(depths)))

    def test_is_path_at(self):
        for book, told in zip(self.books, self.told):
            for d in list(range(12)) + [30, 59, 60, 61]:
                self.assertIs(is_path_at(book, d), told.counts[0][d] == 0)

    def test_leaps(self):
        for book, told in zip(self.books, self.told):
            for d in (1, 2, 3, 7, 20, 59, 60):
                self.assertEqual(leaps(book, d), told.counts[0][d])

    def test_is_ring(self):
        for book, told in zip(self.books, self.told):
            self.assertIs(is_ring(book), told.is_ring(), book)
            self.assertIs(is_ring(book=book), told.is_ring())

    def test_ends(self):
        for book, told in zip(self.books, self.told):
            for kind in range(len(book[1])):
                self.assertEqual(ends(book, kind), told.ends(kind))
                self.assertEqual(ends(book=book, kind=kind), told.ends(kind))

    def test_the_first_leap_is_one(self):
        for book in self.books:
            found = first_leap(book)
            if found is not None:
                d, number = found
                one, other = cell_of(book, d, number), cell_of(book, d, number + 1)
                self.assertFalse(near(one, other))
                self.assertEqual((one, other), (cell_in_words(book, d, number), cell_in_words(book, d, number + 1)))
                self.assertEqual([is_path_at(book, d - 1), is_path_at(book, d)], [True, False])
                self.assertEqual(leaps(book, d - 1), 0)
                self.assertGreater(leaps(book, d), 0)


class Late(unittest.TestCase):
    def test_a_leap_behind_five_copies(self):
        # The last copy is gone backward: up to depth 4 only its places count, at depth 5 its begins and ends do.
        late = copies(BENDS, 5, backward(BENDS))
        self.assertEqual(first_leap(late), (5, 3))
        self.assertEqual([leaps(late, d) for d in range(5)], [0] * 5)
        self.assertEqual([is_path_at(late, 4), is_path_at(late, 5), is_path(late)], [True, False, False])

    def test_copies_are_paths(self):
        for book in (BENDS, PEANO, RING_OF_BENDS):
            many = 20 // len(book[1])
            self.assertEqual([is_path(copies(book, many)), first_leap(copies(book, many))], [True, None])
            self.assertIs(is_ring(copies(book, many)), book == RING_OF_BENDS)

    def test_a_leap_inside_the_last_kind_of_a_long_way(self):
        for many in range(16):
            book = broken_far_down(many)
            number = sum(4 * 9 ** k for k in range(1, many + 1))
            self.assertEqual(first_leap(book), (many + 1, number))
            self.assertEqual(AllDepths(book, many + 2).first_leap(), (many + 1, number))
            self.assertEqual([leaps(book, many), is_path_at(book, many)], [0, True])
            self.assertIs(is_path_at(book, many + 1), False)

    def test_a_step_that_leaps_late(self):
        for many in range(1, 16):
            book = late_step(many)
            self.assertEqual(first_leap(book), (many + 2, 4 ** (many + 1) - 1))
            self.assertEqual(AllDepths(book, many + 5).first_leap(), first_leap(book))
            self.assertEqual([is_path_at(book, many + 1), is_path_at(book, many + 2)], [True, False])
            self.assertEqual([leaps(book, many + 1), leaps(book, many + 2), leaps(book, 60)], [0, 1, 1])
            self.assertIs(is_path(book), False)
            there = first_leap(backward(book))
            self.assertEqual(there, (many + 2, 3 * 4 ** (many + 1) - 1))
            self.assertEqual(AllDepths(backward(book), many + 5).first_leap(), there)

    def test_two_rounds_of_kinds(self):
        for one, other in ((2, 3), (3, 4), (4, 5), (5, 7), (7, 8), (8, 11), (9, 10)):
            book = two_rounds(one, other)
            self.assertEqual(leap_depth_of_step(book, book[1][0][0], book[1][0][1]), one + other - 1)
            told = AllDepths(book, 60)
            self.assertEqual([leaps(book, d) for d in range(61)], told.counts[0])
            self.assertEqual(first_leap(book), told.first_leap())

    def test_two_rounds_that_agree_always(self):
        # Rounds of other lengths with one letter alone never come to a difference.
        book = two_rounds(8, 11, [0] * 17)
        self.assertIs(leap_depth_of_step(book, book[1][0][0], book[1][0][1]), None)
        self.assertEqual([leaps(book, d) for d in range(61)], AllDepths(book, 60).counts[0])

    def test_ring_but_for_the_last_step(self):
        # Moore's ring, the thread a path at all depths, whose last cell moves away from the first late.
        for many in range(1, 13):
            book = late_ring(many)
            told = AllDepths(book, 40)
            self.assertEqual([is_path(book), is_ring(book), told.first_leap()], [True, False, None])
            near_at = [near(told.firsts[0][d], told.lasts[0][d]) for d in range(1, 41)]
            self.assertEqual(near_at, [d <= many + 1 for d in range(1, 41)])

    def test_ends_that_change_late(self):
        for b in (2, 3):
            for many in (2, 5, 20):
                away = chain(b, many)
                self.assertEqual(ends(away, 0), (None, None))
                self.assertEqual(ends(away, many - 1), ((1, 1), (0, 0)))
                same = chain(b, many, [(x, y) for y in range(b) for x in range(b)])
                self.assertEqual([ends(same, kind) for kind in range(many)], [((0, 0), (1, 1))] * many)

    def test_ends_known(self):
        self.assertEqual([ends(BENDS, kind) for kind in range(4)], [
            ((0, 0), (1, 0)), ((0, 0), (0, 1)), ((1, 1), (1, 0)), ((1, 1), (0, 1)),
        ])
        self.assertEqual([ends(PEANO, kind) for kind in range(4)], [
            ((0, 0), (1, 1)), ((1, 0), (0, 1)), ((0, 1), (1, 0)), ((1, 1), (0, 0)),
        ])
        self.assertEqual(ends(RING_OF_BENDS, 0), (None, None))
        self.assertEqual(ends(MIDDLE, 0), (None, (1, 0)))
        self.assertEqual(ends(backward(MIDDLE), 0), ((1, 0), None))
        # At one corner at depth 1 and at another one, or at none, at depth 2.
        self.assertEqual(ends((2, (((0, 0, 1), (1, 0, 1), (0, 1, 1), (1, 1, 0)), ROWS[1][0][::-1])), 0)[0], None)


class Others(unittest.TestCase):
    def test_kinds_that_nothing_leads_to_do_not_count(self):
        for book in (BENDS, PEANO, RING_OF_BENDS):
            lonely = with_lonely_leaps(book)
            self.assertEqual([is_path(lonely), first_leap(lonely)], [True, None])
            self.assertIs(is_ring(lonely), is_ring(book))
            self.assertEqual([leaps(lonely, 60), is_path_at(lonely, 60)], [0, True])
            self.assertIsNot(first_leap(begun_at(lonely, len(book[1]))), None)
            self.assertEqual(ends(lonely, len(book[1])), AllDepths(lonely, 40).ends(len(book[1])))

    def test_rings(self):
        self.assertIs(is_ring(RING_OF_BENDS), True)
        # At depth 1 a ring, but not from depth 2 on; first and last cell near at all depths, but no path.
        self.assertEqual([is_ring(BENDS), is_ring(CUP), is_ring(PEANO)], [False, False, False])
        near_ends = (2, (((0, 0, 1), (1, 1, 0), (0, 1, 0), (1, 0, 2)), *ENDS_LOW))
        told = AllDepths(near_ends, 40)
        self.assertTrue(all(near(one, other) for one, other in zip(told.firsts[0][1:], told.lasts[0][1:])))
        self.assertEqual([is_ring(near_ends), is_path(near_ends)], [False, False])

    def test_postures_and_backward_have_as_many_leaps(self):
        for book in small_books()[::3] + [copies(BENDS, 5, backward(BENDS))]:
            for other in (backward(book), turned(book, (3, 0)), turned(book, (1, 1))):
                self.assertEqual([leaps(other, d) for d in (1, 2, 9, 60)], [leaps(book, d) for d in (1, 2, 9, 60)])
                self.assertEqual([is_path(other), is_ring(other)], [is_path(book), is_ring(book)])
                self.assertEqual((first_leap(other) or (0,))[0], (first_leap(book) or (0,))[0])
            self.assertEqual(first_leap(turned(book, (2, 1))), first_leap(book))

    def test_kinds_with_one_thread(self):
        self.assertEqual([is_path(TWIN_BENDS), first_leap(TWIN_BENDS)], [True, None])
        self.assertEqual([ends(TWIN_BENDS, kind) for kind in range(8)], [ends(BENDS, kind) for kind in range(4)] * 2)

    def test_far_beyond_the_bounds(self):
        book = random_book(3, 3, 30)
        told = AllDepths(book, 100)
        self.assertEqual([leaps(book, 100), first_leap(book)], [told.counts[0][100], told.first_leap()])
        self.assertEqual(is_path_at(copies(BENDS, 5), 1000), True)

    def test_sorts_of_values(self):
        for book in (ROWS, BENDS, PEANO, CUP):
            self.assertIn(is_path(book), (True, False))
            self.assertEqual({type(is_path(book)), type(is_path_at(book, 3)), type(is_ring(book))}, {bool})
            self.assertIs(type(leaps(book, 3)), int)
            told = ends(book, 0)
            self.assertEqual((type(told), len(told)), (tuple, 2))
            self.assertTrue(all(end is None or (type(end), len(end)) == (tuple, 2) for end in told))
        self.assertEqual([type(n) for n in first_leap(ROWS)], [int, int])
        self.assertIs(type(first_leap(ROWS)), tuple)


if __name__ == "__main__":
    unittest.main()
