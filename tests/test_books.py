"""books.py: what a book is, and the books that come of one."""

import unittest

from samples import (
    ALL_POSTURES, BENDS, PEANO, RING_OF_BENDS, ROWS, cell_in_posture, cells_in_words, chain, large_books,
    one_sequence_book, random_book, same_at_depths, small_books, wrong_books,
)
from squarethreads.books import backward, begun_at, have_same_thread, is_book, least, postures, turned
from squarethreads.threads import whole

# Two kinds that lead to each other and have one thread, and one that nothing leads to.
TWINS = (2, (
    ((0, 0, 1), (1, 0, 1), (0, 1, 0), (1, 1, 1)),
    ((0, 0, 0), (1, 0, 0), (0, 1, 1), (1, 1, 0)),
    ((1, 1, 2), (1, 0, 0), (0, 1, 1), (0, 0, 2)),
))


def with_lonely_kinds(book):
    """The same book with two kinds more to which nothing leads."""
    b, kinds = book
    many = len(kinds)
    places = [(x, y) for y in range(b) for x in range(b)]
    lonely = tuple((x, y, many + 1) for x, y in places)
    other = tuple((x, y, 0) for x, y in places[1:] + places[:1])
    return (b, kinds + (lonely, other))


def with_doubled_kinds(book):
    """The same threads with each kind twice, the second parts leading to the doubles."""
    b, kinds = book
    many = len(kinds)
    doubled = []
    for shift in (0, 1):
        for parts in kinds:
            doubled.append(tuple(
                (x, y, kind + many * ((at + shift) % 2)) for at, (x, y, kind) in enumerate(parts)
            ))
    return (b, tuple(doubled))


def same_gone_otherwise(seed, b, many, posture):
    """A book whose kind 0 is the same in a posture gone backward; its kinds k and k + many are such a pair."""
    b, kinds = random_book(seed, b, 2 * many)

    def pair(kind):
        return (kind + many) % (2 * many)

    def moved(x, y, kind):
        return cell_in_posture(b, posture, (x, y)) + (kind,)

    made = list(kinds[:many])
    made += [tuple(moved(x, y, pair(kind)) for x, y, kind in parts[::-1]) for parts in made]
    # Kind 0 is its own pair: its second half is its first one, moved.
    half = [(x, y, kind) for x, y, kind in made[0] if (x, y) < cell_in_posture(b, posture, (x, y))]
    middle = [(x, y, 0) for x, y, _ in made[0] if (x, y) == cell_in_posture(b, posture, (x, y))]
    other_half = [moved(x, y, pair(kind)) for x, y, kind in half[::-1]]
    made[0] = made[many] = tuple(half + middle + other_half)
    return (b, tuple(made))


def ways_the_same(book, depth):
    """The postures in which kind 0 is the same at all depths to this one, by the definition."""
    found = []
    for way, mirror in ALL_POSTURES:
        other = (book[0], tuple(
            tuple(cell_in_posture(book[0], (way, mirror), (x, y)) + (kind,) for x, y, kind in parts)
            for parts in book[1]
        ))
        for back in (0, 1):
            gone = (other[0], tuple(parts[::-1] for parts in other[1])) if back else other
            if same_at_depths(book, gone, depth)[0, 0]:
                found.append(((way, mirror), back))
    return sorted(found)


class IsBook(unittest.TestCase):
    def test_books(self):
        for book in small_books() + large_books() + [TWINS, random_book(0, 2, 30), random_book(0, 3, 64)]:
            self.assertIs(is_book(book), True)
            self.assertIs(is_book(told=book), True)

    def test_all_sequences_of_places(self):
        places = ((0, 0), (0, 1), (1, 0), (1, 1))
        for a in places:
            for b in places:
                for c in places:
                    for d in places:
                        kind = tuple((x, y, 0) for x, y in (a, b, c, d))
                        self.assertIs(is_book((2, (kind,))), len({a, b, c, d}) == 4)

    def test_no_books(self):
        for told in wrong_books() + [object(), int, is_book]:
            self.assertIs(is_book(told), False, repr(told))
            self.assertIs(is_book(told=told), False, repr(told))

    def test_lists_at_each_level(self):
        b, (parts,) = ROWS
        self.assertIs(is_book([b, (parts,)]), False)
        self.assertIs(is_book((b, [parts])), False)
        self.assertIs(is_book((b, (list(parts),))), False)
        self.assertIs(is_book((b, ((list(parts[0]),) + parts[1:],))), False)
        self.assertIs(is_book((b, (parts[:-1] + (list(parts[-1]),),))), False)

    def test_kinds_that_nothing_leads_to_must_be_kinds(self):
        self.assertIs(is_book(with_lonely_kinds(ROWS)), True)
        self.assertIs(is_book((2, ROWS[1] + (((0, 0, 0),) * 4,))), False)


class BegunAt(unittest.TestCase):
    def test_numbered_breadth_first(self):
        places = ((0, 0), (1, 0), (0, 1), (1, 1))

        def kind(*kinds):
            return tuple((x, y, below) for (x, y), below in zip(places, kinds))

        book = (2, (kind(5, 3, 3, 0), kind(1, 1, 1, 1), kind(2, 4, 2, 2), kind(3, 2, 5, 3), kind(4, 4, 0, 4),
                    kind(5, 5, 4, 5)))
        self.assertEqual(begun_at(book, 0), (2, (
            kind(1, 2, 2, 0), kind(1, 1, 3, 1), kind(2, 4, 1, 2), kind(3, 3, 0, 3), kind(4, 3, 4, 4))))
        self.assertEqual(begun_at(book, 1), (2, (kind(0, 0, 0, 0),)))
        self.assertEqual(begun_at(book, 3), (2, (
            kind(0, 1, 2, 0), kind(1, 3, 1, 1), kind(2, 2, 3, 2), kind(3, 3, 4, 3), kind(2, 0, 0, 4))))
        self.assertEqual(begun_at(book, 5), (2, (
            kind(0, 0, 1, 0), kind(1, 1, 2, 1), kind(0, 3, 3, 2), kind(3, 4, 0, 3), kind(4, 1, 4, 4))))
        self.assertEqual(begun_at(book=book, kind=1), begun_at(book, 1))

    def test_begun_at_the_first_kind(self):
        self.assertEqual(begun_at(BENDS, 0), BENDS)
        self.assertEqual(begun_at(ROWS, 0), ROWS)
        self.assertEqual(begun_at(with_lonely_kinds(BENDS), 0), BENDS)
        changed = begun_at(RING_OF_BENDS, 0)
        self.assertNotEqual(changed, RING_OF_BENDS)
        self.assertEqual(changed[1][0], ((0, 0, 1), (0, 1, 1), (1, 1, 2), (1, 0, 2)))

    def test_kinds_that_have_one_thread_stay_two(self):
        self.assertEqual(begun_at(TWINS, 0), (2, TWINS[1][:2]))
        self.assertEqual(len(begun_at(TWINS, 2)[1]), 3)

    def test_threads_stay_the_same(self):
        for book in small_books():
            for kind in range(len(book[1])):
                begun = begun_at(book, kind)
                self.assertIs(is_book(begun), True)
                for d in range(3):
                    self.assertEqual(cells_in_words(begun, d), cells_in_words(book, d, kind))

    def test_numbers_come_as_they_are_met(self):
        for book in small_books() + large_books():
            for kind in range(len(book[1])):
                begun = begun_at(book, kind)
                met = [0] + [below for parts in begun[1] for _, _, below in parts]
                firsts = sorted(range(len(begun[1])), key=met.index)
                self.assertEqual(firsts, list(range(len(begun[1]))))
                self.assertEqual(set(met), set(firsts))
                self.assertEqual(begun_at(begun, 0), begun)


class Least(unittest.TestCase):
    def test_twins_are_one(self):
        self.assertEqual(least(TWINS), ROWS)
        self.assertEqual(least(book=TWINS), ROWS)
        self.assertEqual(least(with_doubled_kinds(ROWS)), ROWS)

    def test_already_least(self):
        for book in (ROWS, BENDS):
            self.assertEqual(least(book), book)
        self.assertEqual(len(least(PEANO)[1]), 4)

    def test_kinds_that_are_not_led_to_are_left_out(self):
        for book in (ROWS, BENDS):
            self.assertEqual(least(with_lonely_kinds(book)), book)
        self.assertEqual(len(least(begun_at(TWINS, 2))[1]), 2)

    def test_doubled_kinds_are_one_again(self):
        for book in small_books():
            self.assertEqual(least(with_doubled_kinds(book)), least(book))
            self.assertEqual(least(with_lonely_kinds(book)), least(book))

    def test_ring_has_four_bends_or_two_more(self):
        ring = least(RING_OF_BENDS)
        self.assertEqual(len(ring[1]), 5)
        self.assertEqual(cells_in_words(ring, 3), cells_in_words(RING_OF_BENDS, 3))

    def test_kinds_that_differ_many_depths_down_stay(self):
        for b in (2, 3):
            for many in (2, 3, 20):
                self.assertEqual(least(chain(b, many)), chain(b, many))
            same = [(x, y) for y in range(b) for x in range(b)]
            for many in (2, 20):
                one = (b, (tuple((x, y, 0) for x, y in same),))
                self.assertEqual(least(chain(b, many, same)), one)

    def test_two_chains_that_differ_at_their_ends(self):
        same = [(x, y) for y in range(2) for x in range(2)]
        for last, count in ((same[::-1], 10), (same[1:] + same[:1], 19)):
            one, other = chain(2, 10)[1], chain(2, 10, last)[1]
            both = one + tuple(tuple((x, y, kind + 10) for x, y, kind in parts) for parts in other)
            # The first kind leads into both chains; the first kind of the other one is left out.
            joined = (both[0][:1] + ((1, 0, 11),) + both[0][2:],) + both[1:10] + both[11:]
            joined = tuple(tuple((x, y, k - (k > 10)) for x, y, k in parts) for parts in joined)
            self.assertIs(is_book((2, joined)), True)
            self.assertEqual(len(least((2, joined))[1]), count)

    def test_against_the_threads_at_all_depths(self):
        books = small_books() + large_books() + [one_sequence_book(seed, b, 20) for b in (2, 3) for seed in range(3)]
        for book in books:
            short = least(book)
            deep = len(book[1]) + len(short[1]) + 1
            self.assertIs(is_book(short), True)
            self.assertIs(same_at_depths(book, short, deep)[0, 0], True)
            for (k, j), same in same_at_depths(short, short, deep).items():
                self.assertIs(same, k == j)
            self.assertEqual(begun_at(short, 0), short)
            self.assertEqual(least(short), short)
            self.assertEqual(least(begun_at(book, 0)), short)

    def test_whole_is_the_same(self):
        for book in small_books():
            for d in range(4):
                self.assertEqual(whole(least(book), d), whole(book, d))


class TurnedAndBackward(unittest.TestCase):
    def test_all_postures_of_one_kind(self):
        sequences = {
            (0, 0): ((0, 0), (1, 0), (0, 1), (1, 1)), (0, 1): ((0, 0), (0, 1), (1, 0), (1, 1)),
            (1, 0): ((1, 0), (1, 1), (0, 0), (0, 1)), (1, 1): ((0, 1), (1, 1), (0, 0), (1, 0)),
            (2, 0): ((1, 1), (0, 1), (1, 0), (0, 0)), (2, 1): ((1, 1), (1, 0), (0, 1), (0, 0)),
            (3, 0): ((0, 1), (0, 0), (1, 1), (1, 0)), (3, 1): ((1, 0), (0, 0), (1, 1), (0, 1)),
        }
        self.assertEqual(sorted(sequences), sorted(ALL_POSTURES))
        for posture, places in sequences.items():
            expected = (2, (tuple((x, y, 0) for x, y in places),))
            self.assertEqual(turned(ROWS, posture), expected)
            self.assertEqual(turned(book=ROWS, posture=posture), expected)

    def test_against_the_cells_of_whole(self):
        for book in small_books():
            for d in range(4 if book[0] == 2 else 3):
                cells = whole(book, d)
                size = book[0] ** d
                for posture in ALL_POSTURES:
                    moved = [cell_in_posture(size, posture, cell) for cell in cells]
                    self.assertEqual(whole(turned(book, posture), d), moved)
                    self.assertEqual(whole(backward(turned(book, posture)), d), moved[::-1])
                self.assertEqual(whole(backward(book), d), cells[::-1])
                self.assertEqual(whole(backward(book=book), d), cells[::-1])

    def test_all_kinds_at_their_indexes(self):
        for book in small_books() + large_books() + [TWINS, with_lonely_kinds(BENDS)]:
            b, kinds = book
            for posture in ALL_POSTURES:
                expected = tuple(
                    tuple(cell_in_posture(b, posture, (x, y)) + (kind,) for x, y, kind in parts) for parts in kinds
                )
                self.assertEqual(turned(book, posture), (b, expected))
            self.assertEqual(backward(book), (b, tuple(parts[::-1] for parts in kinds)))
            self.assertEqual(backward(backward(book)), book)
            self.assertEqual(turned(book, (0, 0)), book)

    def test_four_turns_and_two_mirrors(self):
        for book in (ROWS, BENDS, PEANO, TWINS):
            for way in range(4):
                back = turned(turned(book, (way, 0)), ((4 - way) % 4, 0))
                self.assertEqual(back, book)
                self.assertEqual(turned(turned(book, (way, 1)), (way, 1)), book)
                self.assertEqual(turned(turned(book, (way, 0)), (0, 1)), turned(book, (way, 1)))


class Postures(unittest.TestCase):
    def test_known_ones(self):
        as_it_is = ((0, 0), 0)
        self.assertEqual(postures(ROWS), [as_it_is, ((2, 0), 1)])
        self.assertEqual(postures(BENDS), [as_it_is, ((3, 1), 1)])
        self.assertEqual(postures(PEANO), [as_it_is, ((2, 0), 1)])
        self.assertEqual(postures(RING_OF_BENDS), [as_it_is, ((3, 1), 1)])
        self.assertEqual(postures(book=ROWS), [as_it_is, ((2, 0), 1)])

    def test_each_posture_that_a_thread_can_be_backward_in(self):
        as_it_is = ((0, 0), 0)
        places = {
            (2, 0): ((0, 0), (1, 0), (0, 1), (1, 1)),
            (1, 1): ((0, 0), (1, 0), (1, 1), (0, 1)),
            (3, 1): ((0, 0), (0, 1), (1, 1), (1, 0)),
        }
        for posture, sequence in places.items():
            book = (2, (tuple((x, y, 0) for x, y in sequence),))
            self.assertEqual(postures(book), [as_it_is, (posture, 1)])

    def test_kinds_the_same_only_as_threads(self):
        for book in (ROWS, BENDS, PEANO, RING_OF_BENDS):
            expected = postures(book)
            self.assertEqual(len(expected), 2)
            self.assertEqual(postures(with_doubled_kinds(book)), expected)
            self.assertEqual(postures(with_lonely_kinds(book)), expected)
            self.assertEqual(postures(with_lonely_kinds(with_doubled_kinds(book))), expected)
            self.assertEqual(postures(least(with_doubled_kinds(book))), expected)

    def test_kinds_that_nothing_leads_to(self):
        lonely = (2, ROWS[1] + (((0, 0, 0), (1, 1, 1), (0, 1, 0), (1, 0, 1)),))
        self.assertEqual(postures(lonely), [((0, 0), 0), ((2, 0), 1)])
        self.assertEqual(postures(begun_at(lonely, 1)), [((0, 0), 0)])

    def test_books_made_the_same_gone_backward(self):
        for posture in ((2, 0), (1, 1), (3, 1)):
            for many in (2, 3, 10):
                for seed in range(4):
                    if posture == (2, 0):
                        books = [same_gone_otherwise(seed, b, many, posture) for b in (2, 3)]
                    else:
                        books = [same_gone_otherwise(seed, 2, many, posture)]
                    for book in books:
                        self.assertIs(is_book(book), True)
                        found = postures(book)
                        self.assertIn((posture, 1), found)
                        self.assertEqual(found, ways_the_same(book, 2 * len(book[1]) + 1))

    def test_difference_many_depths_down(self):
        # Each kind of the chain is the same turned by half, gone backward, but for the last one.
        same = [(x, y) for y in range(2) for x in range(2)]
        other = [(0, 0), (0, 1), (1, 1), (1, 0)]
        self.assertEqual(postures(chain(2, 20, same)), [((0, 0), 0), ((2, 0), 1)])
        self.assertEqual(postures(chain(2, 20, other)), [((0, 0), 0)])
        self.assertEqual(postures(chain(2, 20)), [((0, 0), 0), ((2, 0), 1)])
        self.assertEqual(postures(chain(3, 20, PEANO_PLACES)), [((0, 0), 0), ((2, 0), 1)])
        twisted = PEANO_PLACES[:7] + PEANO_PLACES[8:] + PEANO_PLACES[7:8]
        self.assertEqual(postures(chain(3, 20, twisted)), [((0, 0), 0)])

    def test_against_the_definition(self):
        for book in small_books() + large_books() + [TWINS]:
            found = postures(book)
            self.assertIn(((0, 0), 0), found)
            self.assertEqual(found, sorted(found))
            self.assertEqual(found, ways_the_same(book, 2 * len(book[1]) + 1))

    def test_against_the_cells(self):
        for book in [book for book in small_books() if len(book[1]) < 3 and book[0] == 2] + [BENDS, PEANO]:
            depths = range(5 if book[0] == 2 else 4)
            found = []
            for posture in ALL_POSTURES:
                for back in (0, 1):
                    if all(self.is_same(book, d, posture, back) for d in depths):
                        found.append((posture, back))
            self.assertEqual(postures(book), sorted(found))

    def is_same(self, book, d, posture, back):
        cells = cells_in_words(book, d)
        moved = [cell_in_posture(book[0] ** d, posture, cell) for cell in cells]
        return cells == (moved[::-1] if back else moved)


class SameThread(unittest.TestCase):
    def test_each_part_counts(self):
        # Only one part of kind 0 leads to a kind with another thread.
        places = [(x, y) for y in range(3) for x in range(3)]
        other = tuple((x, y, 1) for x, y in places[::-1])
        one = (3, (tuple((x, y, 0) for x, y in places), other))
        for at in range(9):
            parts = tuple((x, y, int(k == at)) for k, (x, y) in enumerate(places))
            self.assertIs(have_same_thread(one, (3, (parts, other))), False)
            self.assertIs(have_same_thread((3, (parts, other)), one), False)
            self.assertIs(have_same_thread((3, (parts, one[1][0])), one), True)

    def test_against_the_definition(self):
        for b in (2, 3):
            books = [book for book in small_books() + large_books() + [TWINS] if book[0] == b]
            for one in books:
                for other in (least(one), with_doubled_kinds(one), begun_at(one, 0), with_lonely_kinds(one)):
                    self.assertIs(have_same_thread(one, other), True)
                for other in books:
                    if len(one[1]) < 6 and len(other[1]) < 6:
                        same = same_at_depths(one, other, len(one[1]) + len(other[1]) + 1)
                        self.assertIs(have_same_thread(one, other), same[0, 0])


PEANO_PLACES = [part[:2] for part in PEANO[1][0]]


class Answers(unittest.TestCase):
    def assert_tuples(self, told):
        self.assertIn(type(told), (tuple, int))
        if type(told) is tuple:
            for inner in told:
                self.assert_tuples(inner)

    def test_tuples_all_the_way_down(self):
        for book in small_books() + large_books():
            self.assert_tuples(begun_at(book, len(book[1]) - 1))
            self.assert_tuples(least(book))
            self.assert_tuples(backward(book))
            for posture in ALL_POSTURES:
                self.assert_tuples(turned(book, posture))
            found = postures(book)
            self.assertIs(type(found), list)
            self.assert_tuples(tuple(found))

    def test_lists_are_new_each_time(self):
        first = postures(BENDS)
        kept = list(first)
        first.clear()
        self.assertEqual(postures(BENDS), kept)
        self.assertIsNot(postures(BENDS), postures(BENDS))


if __name__ == "__main__":
    unittest.main()
