"""alikes.py: which books and kinds make the same thread, and where others differ."""

import random
import unittest

from samples import (
    ALL_POSTURES, BENDS, PEANO, RING_OF_BENDS, ROWS, cell_in_posture, cell_in_words, cells_in_words, chain, copies,
    large_books, nearly_right_book, one_sequence_book, random_book, same_at_depths, small_books,
)
from squarethreads.alikes import alike_in, same_kinds, unlike
from squarethreads.books import backward, begun_at, is_book, least, postures, turned
from squarethreads.errors import InvalidBook, InvalidPair
from test_books import TWINS, with_doubled_kinds, with_lonely_kinds


def unlike_in_words(one, other, deepest):
    """The least depth down to the deepest at which two books differ, and the first number at which they do."""
    for d in range(deepest + 1):
        ones, others = cells_in_words(one, d), cells_in_words(other, d)
        for number in range(len(ones)):
            if ones[number] != others[number]:
                return (d, number)
    return None


class UnlikeFarDown:
    """The same for all depths to a great one, part by part."""

    def __init__(self, one, other, deepest):
        self.one, self.other = one, other
        pairs = [(k, j) for k in range(len(one[1])) for j in range(len(other[1]))]
        self.rows = [{pair: None for pair in pairs}]
        for d in range(1, deepest + 1):
            self.rows.append({pair: self.first_number(pair, d) for pair in pairs})

    def first_number(self, pair, d):
        """The first number at which two kinds' cells of a depth differ, or None."""
        share = self.one[0] ** (2 * (d - 1))
        for at, (part, beside) in enumerate(zip(self.one[1][pair[0]], self.other[1][pair[1]])):
            if part[:2] != beside[:2]:
                return at * share
            inside = self.rows[d - 1][part[2], beside[2]]
            if inside is not None:
                return at * share + inside
        return None

    def told(self):
        for d, row in enumerate(self.rows):
            if row[0, 0] is not None:
                return (d, row[0, 0])
        return None


def pairs_of_books():
    """Pairs of books with one b, among them many that differ late or not at all."""
    pairs = []
    for b in (2, 3):
        books = [book for book in small_books() if book[0] == b]
        pairs += [(one, other) for one in books[:12] for other in books[:12]]
        pairs += [(one_sequence_book(seed, b, many), one_sequence_book(seed + 1, b, many))
                  for seed in range(12) for many in (3, 5, 8, 20)]
    for book in small_books() + large_books() + [TWINS]:
        pairs += [(book, book), (book, least(book)), (begun_at(book, 0), book), (book, with_lonely_kinds(book))]
        pairs += [(with_doubled_kinds(book), book)] if len(book[1]) < 11 else []
    for seed in range(20):
        for book in (BENDS, PEANO, RING_OF_BENDS):
            pairs += [(book, nearly_right_book(seed, book, 3)), (nearly_right_book(seed, book, 2), copies(book, 3))]
    return pairs


class Unlike(unittest.TestCase):
    def test_small_depths_in_words(self):
        for one, other in pairs_of_books():
            deepest = 4 if one[0] == 2 else 2
            expected = unlike_in_words(one, other, deepest)
            told = unlike(one, other)
            if expected is None:
                self.assertTrue(told is None or told[0] > deepest, (one, other, told))
            else:
                self.assertEqual(told, expected)

    def test_all_depths_part_by_part(self):
        depths = set()
        for one, other in pairs_of_books():
            expected = UnlikeFarDown(one, other, 20).told()
            self.assertEqual(unlike(one, other), expected)
            self.assertEqual(unlike(other, one), expected)
            depths.add(expected and expected[0])
        self.assertTrue(depths >= {None, 1, 2, 3}, depths)

    def test_late_ones(self):
        for b in (2, 3):
            places = [(x, y) for y in range(b) for x in range(b)]
            for many in range(1, 21):
                one, other = chain(b, many), chain(b, many, places)
                self.assertEqual(unlike(one, other), (many, 0))
                self.assertEqual(unlike(other, one), (many, 0))
                plain = (b, (tuple((x, y, 0) for x, y in places),))
                self.assertEqual(unlike(one, plain), (many, 0))
                self.assertIs(unlike(other, plain), None)
                # The last two parts exchanged: all cells but the last two are the same.
                swapped = chain(b, many, places[:-2] + [places[-1], places[-2]])
                self.assertEqual(unlike(swapped, plain), (many, b * b - 2))
                self.assertEqual(unlike(swapped, other), (many, b * b - 2))

    def test_only_one_way_leads_to_a_difference(self):
        for b in (2, 3):
            for seed in range(20):
                chance = random.Random(f"way {b} {seed}")
                way = [chance.randrange(b * b) for _ in range(9)]
                one, other = self.one_way(b, way, False), self.one_way(b, way, True)
                number = 0
                for at in way:
                    number = number * b * b + at
                self.assertEqual(unlike(one, other), (10, number * b * b + 1))
                self.assertEqual(cell_in_words(one, 10, number * b * b), cell_in_words(other, 10, number * b * b))
                self.assertNotEqual(cell_in_words(one, 10, number * b * b + 1),
                                    cell_in_words(other, 10, number * b * b + 1))

    def one_way(self, b, way, swapped):
        """Kinds that lead to the last one but one by one way alone; all other parts lead to the last one."""
        places = [(x, y) for y in range(b) for x in range(b)]
        last = len(way) + 1
        kinds = [tuple((x, y, k + 1 if j == at else last) for j, (x, y) in enumerate(places))
                 for k, at in enumerate(way)]
        other = places[:1] + places[2:] + places[1:2] if swapped else places
        kinds.append(tuple((x, y, last) for x, y in other))
        kinds.append(tuple((x, y, last) for x, y in places))
        return (b, tuple(kinds))

    def test_the_first_of_several(self):
        # Both the first and the last part lead to kinds that differ at one depth; only the last does so earlier.
        rows = ROWS[1][0]
        plain = tuple((x, y, 3) for x, y, _ in rows)
        other = plain[::-1]
        one = (2, (tuple((x, y, kind) for (x, y, _), kind in zip(rows, (1, 3, 3, 2))), plain, plain, plain))
        late = (2, (one[1][0], other, other, plain))
        self.assertEqual(unlike(one, late), (2, 0))
        late = (2, (one[1][0], plain, other, plain))
        self.assertEqual(unlike(one, late), (2, 12))
        deeper = (2, (one[1][0], tuple((x, y, 2) for x, y, _ in rows), other, plain))
        self.assertEqual(unlike(one, deeper), (2, 12))

    def test_by_name_and_sorts(self):
        told = unlike(one=ROWS, other=BENDS)
        self.assertEqual(told, (1, 1))
        self.assertEqual([type(told), type(told[0]), type(told[1])], [tuple, int, int])
        self.assertIs(unlike(one=TWINS, other=ROWS), None)
        self.assertEqual(alike_in(one=ROWS, other=ROWS), [((0, 0), 0), ((2, 0), 1)])
        self.assertEqual(same_kinds(book=TWINS), ((0, 1), (2,)))

    def test_kinds_that_nothing_leads_to(self):
        self.assertIs(unlike(with_lonely_kinds(ROWS), TWINS), None)
        self.assertEqual(unlike(with_lonely_kinds(BENDS), begun_at(BENDS, 1)), (1, 1))


class AlikeIn(unittest.TestCase):
    def in_words(self, one, other, depth):
        """All ways in which the other one's thread is the one's, at all depths to this one."""
        found = []
        for posture in ALL_POSTURES:
            moved = (one[0], tuple(
                tuple(cell_in_posture(one[0], posture, (x, y)) + (kind,) for x, y, kind in parts) for parts in one[1]))
            for back in (0, 1):
                gone = (one[0], tuple(parts[::-1] for parts in moved[1])) if back else moved
                if same_at_depths(gone, other, depth)[0, 0]:
                    found.append((posture, back))
        return sorted(found)

    def test_made_ones(self):
        for book in small_books() + large_books() + [TWINS]:
            own = postures(book)
            for posture in ALL_POSTURES:
                other = turned(book, posture)
                self.assertIn((posture, 0), alike_in(book, other))
                self.assertIn((posture, 1), alike_in(book, backward(other)))
                self.assertEqual(len(alike_in(book, other)), len(own))
                self.assertEqual(len(alike_in(backward(other), book)), len(own))
            self.assertEqual(alike_in(book, book), own)
            self.assertEqual(alike_in(book, least(book)), own)
            self.assertIn(((0, 0), 1), alike_in(book, backward(book)))

    def test_by_hand(self):
        # A turn leads from the one to the other, not back.
        turn = (2, (((1, 0, 0), (1, 1, 0), (0, 0, 0), (0, 1, 0)),))
        self.assertEqual(turned(ROWS, (1, 0)), turn)
        self.assertEqual(alike_in(ROWS, turn), [((1, 0), 0), ((3, 0), 1)])
        self.assertEqual(alike_in(turn, ROWS), [((1, 0), 1), ((3, 0), 0)])
        self.assertEqual(alike_in(BENDS, begun_at(BENDS, 1)), [((0, 1), 0), ((3, 0), 1)])
        self.assertEqual(alike_in(ROWS, BENDS), [])
        self.assertEqual(alike_in(BENDS, BENDS), [((0, 0), 0), ((3, 1), 1)])

    def test_against_the_definition(self):
        found = 0
        for one, other in pairs_of_books():
            if len(one[1]) * len(other[1]) < 40:
                told = alike_in(one, other)
                self.assertEqual(told, self.in_words(one, other, len(one[1]) + len(other[1]) + 1))
                found += len(told) > 0
        self.assertGreater(found, 50)

    def test_against_the_cells(self):
        for one in (ROWS, BENDS, random_book(1, 2, 2)):
            for posture in ALL_POSTURES:
                for other in (turned(one, posture), backward(turned(one, posture))):
                    expected = []
                    cells, others = cells_in_words(one, 3), cells_in_words(other, 3)
                    for told in ALL_POSTURES:
                        moved = [cell_in_posture(8, told, cell) for cell in cells]
                        expected += [(told, 0)] if moved == others else []
                        expected += [(told, 1)] if moved[::-1] == others else []
                    self.assertEqual(alike_in(one, other), expected)

    def test_difference_many_depths_down(self):
        places = [(x, y) for y in range(2) for x in range(2)]
        other = chain(2, 20, [(0, 0), (0, 1), (1, 1), (1, 0)])
        self.assertEqual(alike_in(chain(2, 20, places), other), [])
        self.assertEqual(alike_in(chain(2, 20, places), chain(2, 20, places)), [((0, 0), 0), ((2, 0), 1)])
        self.assertEqual(alike_in(other, turned(other, (3, 1))), [((3, 1), 0)])
        self.assertEqual(alike_in(other, backward(turned(other, (1, 0)))), [((1, 0), 1)])

    def test_new_lists(self):
        told = alike_in(BENDS, BENDS)
        self.assertEqual([type(told), type(told[0]), type(told[0][0])], [list, tuple, tuple])
        told.clear()
        self.assertEqual(alike_in(BENDS, BENDS), [((0, 0), 0), ((3, 1), 1)])


class SameKinds(unittest.TestCase):
    def in_words(self, book):
        same = same_at_depths(book, book, 2 * len(book[1]) + 1)
        groups = {tuple(j for j in range(len(book[1])) if same[k, j]) for k in range(len(book[1]))}
        return tuple(sorted(groups))

    def test_against_the_definition(self):
        books = small_books() + large_books() + [TWINS]
        books += [one_sequence_book(seed, b, many) for seed in range(8) for b in (2, 3) for many in (4, 8, 20)]
        books += [with_doubled_kinds(book) for book in small_books()] + [copies(BENDS, 5)]
        sizes = set()
        for book in books:
            self.assertIs(is_book(book), True)
            told = same_kinds(book)
            self.assertEqual(told, self.in_words(book))
            sizes |= {len(kinds) for kinds in told}
        self.assertTrue(sizes >= {1, 2, 3, 5}, sizes)

    def test_known_ones(self):
        self.assertEqual(same_kinds(ROWS), ((0,),))
        self.assertEqual(same_kinds(BENDS), ((0,), (1,), (2,), (3,)))
        self.assertEqual(same_kinds(TWINS), ((0, 1), (2,)))
        self.assertEqual(same_kinds(with_doubled_kinds(BENDS)), ((0, 4), (1, 5), (2, 6), (3, 7)))
        # A kind to which nothing leads counts, too.
        self.assertEqual(same_kinds((2, ROWS[1] + (ROWS[1][0], tuple((x, y, 2) for x, y, _ in ROWS[1][0])))),
                         ((0, 1, 2),))

    def test_a_difference_many_depths_down(self):
        places = [(x, y) for y in range(3) for x in range(3)]
        self.assertEqual(same_kinds(chain(3, 20)), tuple((kind,) for kind in range(20)))
        self.assertEqual(same_kinds(chain(3, 20, places)), (tuple(range(20)),))

    def test_sorts_of_values(self):
        told = same_kinds(TWINS)
        self.assertEqual([type(told), type(told[0]), type(told[0][0])], [tuple, tuple, int])


class Pairs(unittest.TestCase):
    def test_two_b(self):
        for function in (unlike, alike_in):
            for one, other in ((ROWS, PEANO), (PEANO, BENDS), (random_book(0, 3, 20), chain(2, 20))):
                with self.assertRaises(InvalidPair) as held:
                    function(one, other)
                self.assertEqual(held.exception.value, (one[0], other[0]))
                self.assertIs(type(held.exception.value), tuple)
                with self.assertRaises(InvalidPair) as held:
                    function(other=one, one=other)
                self.assertEqual(held.exception.value, (other[0], one[0]))

    def test_books_come_first(self):
        for function in (unlike, alike_in):
            for wrong in (None, (4, ROWS[1]), [3, PEANO[1]], (3, ROWS[1]), (2, ())):
                for right in (ROWS, PEANO):
                    for one, other in ((wrong, right), (right, wrong)):
                        with self.assertRaises(InvalidBook) as held:
                            function(one, other)
                        self.assertIs(held.exception.value, wrong)
            with self.assertRaises(InvalidBook) as held:
                function((1, 1), (2, 2))
            self.assertEqual(held.exception.value, (1, 1))


if __name__ == "__main__":
    unittest.main()
