"""makers.py: pictures, makes, the books that they make, and all makes that go on."""

import itertools
import random
import unittest

from samples import (
    ALL_POSTURES, ALL_TURNS, BENDS, BENT, CUP, PEANO, SNAKE, all_pictures, cell_in_posture, cells_in_words,
    leaps_in_words, mother_in_words, near, random_make, wrong_makes, wrong_pictures,
)
from squarethreads.alikes import unlike
from squarethreads.books import is_book, turned
from squarethreads.errors import InvalidMake, InvalidPicture
from squarethreads.makers import goes_on, how_many_makes, is_make, is_picture, made, makes
from squarethreads.paths import first_leap, is_path
from squarethreads.threads import whole

# The make of the snake whose thread is Peano's: x the other way in odd rows, y the other way in odd columns.
OF_PEANO = tuple(
    {(0, 0): (0, 0, 0), (1, 0): (1, 1, 0), (0, 1): (3, 1, 0), (1, 1): (2, 0, 0)}[x % 2, y % 2] for x, y in SNAKE[1])


def turn_behind(first, second):
    """The turn that is as much as one turn and a second one, by where three cells of a square come."""
    cells = [(0, 0), (1, 0), (2, 1)]
    moved = [cell_in_posture(3, second[:2], cell_in_posture(3, first[:2], cell)) for cell in cells]
    (posture,) = [told for told in ALL_POSTURES if [cell_in_posture(3, told, cell) for cell in cells] == moved]
    return posture + ((first[2] + second[2]) % 2,)


def made_in_words(picture, make):
    """The book of a make: the kinds of all turns that are met, breadth first, parts in their thread's sequence."""
    b, places = picture
    met, kinds = [(0, 0, 0)], []
    for turn in met:
        parts = [(cell_in_posture(b, turn[:2], place), turn_behind(told, turn)) for place, told in zip(places, make)]
        parts = parts[::-1] if turn[2] else parts
        for _, below in parts:
            if below not in met:
                met.append(below)
        kinds.append(parts)
    return (b, tuple(tuple(place + (met.index(below),) for place, below in parts) for parts in kinds))


def some_makes():
    """Pictures with makes: each turn at each place among them, few turns and many."""
    told = [(CUP, BENT), (SNAKE, OF_PEANO), (CUP, ((0, 0, 0),) * 4), (SNAKE, ((3, 1, 1),) * 9)]
    for b in (2, 3):
        pictures = all_pictures(b)
        for seed in range(20):
            told.append((pictures[seed % len(pictures)], random_make(seed, b * b)))
        for at in range(b * b):
            for turn in ALL_TURNS:
                told.append((pictures[at], ((0, 0, 0),) * at + (turn,) + ((0, 0, 0),) * (b * b - 1 - at)))
    return told


def making_ways(picture):
    """All makes of a picture with b 2 whose threads are paths at the depths to 6, by the words alone."""
    b, places = picture
    # A step of depth 2 is near or not by the two turns beside it alone, as depth 1 is the picture itself.
    ends = {}
    for place in places:
        for turn in ALL_TURNS:
            moved = [cell_in_posture(2, turn[:2], cell) for cell in (places[::-1] if turn[2] else places)]
            ends[place, turn] = [(2 * place[0] + x, 2 * place[1] + y) for x, y in (moved[0], moved[-1])]
    found = [
        make for make in itertools.product(ALL_TURNS, repeat=4)
        if all(near(ends[places[k], make[k]][1], ends[places[k + 1], make[k + 1]][0]) for k in range(3))
    ]
    for d in range(3, 7):
        found = [make for make in found if not leaps_in_words(mother_in_words(picture, make, d))]
    return found


class Pictures(unittest.TestCase):
    def test_pictures(self):
        self.assertEqual([len(all_pictures(2)), len(all_pictures(3))], [8, 40])
        for b in (2, 3):
            for picture in all_pictures(b):
                self.assertIs(is_picture(picture), True)
                self.assertIs(is_picture(told=picture), True)

    def test_all_sequences_of_places(self):
        right = all_pictures(2)
        for places in itertools.product([(0, 0), (0, 1), (1, 0), (1, 1)], repeat=4):
            self.assertIs(is_picture((2, places)), (2, places) in right)
        chance = random.Random(5)
        places = [(x, y) for x in range(3) for y in range(3)]
        right = all_pictures(3)
        for _ in range(2000):
            chance.shuffle(places)
            self.assertIs(is_picture((3, tuple(places))), (3, tuple(places)) in right)

    def test_no_pictures(self):
        for told in wrong_pictures():
            self.assertIs(is_picture(told), False, repr(told))
            self.assertIs(is_picture(told=told), False)
            with self.assertRaises(InvalidPicture) as held:
                is_make(told, ((0, 0, 0),) * 4)
            self.assertIs(held.exception.value, told)


class Makes(unittest.TestCase):
    def test_makes(self):
        for picture, make in some_makes():
            self.assertIs(is_make(picture, make), True)
            self.assertIs(is_make(picture=picture, told=make), True)

    def test_no_makes(self):
        for picture in (CUP, SNAKE):
            for told in wrong_makes(picture):
                self.assertIs(is_make(picture, told), False, repr(told))
                self.assertIs(is_make(picture=picture, told=told), False)
        self.assertIs(is_make(CUP, OF_PEANO), False)
        self.assertIs(is_make(SNAKE, BENT), False)


class Made(unittest.TestCase):
    def test_against_the_words(self):
        sizes = set()
        for picture, make in some_makes():
            book = made(picture, make)
            self.assertIs(is_book(book), True)
            self.assertEqual(book, made_in_words(picture, make))
            self.assertEqual(book, made(picture=picture, make=make))
            sizes.add(len(book[1]))
        self.assertTrue(sizes >= {1, 2, 4, 8, 16}, sizes)

    def test_threads_are_the_mother_s(self):
        for picture, make in some_makes():
            book = made(picture, make)
            for d in range(4 if picture[0] == 2 else 3):
                cells = mother_in_words(picture, make, d)
                self.assertEqual(cells_in_words(book, d), cells)
                self.assertEqual(whole(book, d), cells)

    def test_all_makes_of_few_turns(self):
        turns = [(0, 0, 1), (1, 0, 0), (2, 1, 1), (3, 1, 0)]
        for make in itertools.product(turns, repeat=4):
            self.assertEqual(made(CUP, make), made_in_words(CUP, make))

    def test_all_turns_of_all_turns(self):
        # The last part leads on, the others lead back: two turns one behind the other at each place.
        for first, second in itertools.product(ALL_TURNS, repeat=2):
            make = (first, second, (0, 0, 0), (0, 0, 0))
            self.assertEqual(made(CUP, make), made_in_words(CUP, make))
            self.assertEqual(cells_in_words(made(CUP, make), 3), mother_in_words(CUP, make, 3))

    def test_by_hand(self):
        self.assertEqual(made(CUP, ((0, 0, 0),) * 4), (2, (((0, 0, 0), (0, 1, 0), (1, 1, 0), (1, 0, 0)),)))
        # One back: the second kind is the mother gone backward, its first part is what was the last one.
        self.assertEqual(made(CUP, ((0, 0, 0), (0, 0, 0), (0, 0, 0), (0, 0, 1))), (2, (
            ((0, 0, 0), (0, 1, 0), (1, 1, 0), (1, 0, 1)), ((1, 0, 0), (1, 1, 1), (0, 1, 1), (0, 0, 1)))))
        # A quarter turn at the first place: four kinds, each turned more than the one before.
        self.assertEqual(made(CUP, ((1, 0, 0), (0, 0, 0), (0, 0, 0), (0, 0, 0))), (2, (
            ((0, 0, 1), (0, 1, 0), (1, 1, 0), (1, 0, 0)), ((1, 0, 2), (0, 0, 1), (0, 1, 1), (1, 1, 1)),
            ((1, 1, 3), (1, 0, 2), (0, 0, 2), (0, 1, 2)), ((0, 1, 0), (1, 1, 3), (1, 0, 3), (0, 0, 3)))))

    def test_known_threads(self):
        self.assertIs(unlike(made(CUP, BENT), BENDS), None)
        self.assertEqual(len(made(CUP, BENT)[1]), 4)
        self.assertIs(unlike(made(SNAKE, OF_PEANO), PEANO), None)

    def test_kinds_with_one_thread_stay_two(self):
        # Bends gone backward are bends in another posture.
        twins = ((0, 1, 0), (3, 1, 1), (0, 0, 0), (2, 1, 0))
        self.assertGreater(len(made(CUP, twins)[1]), 4)
        self.assertIs(unlike(made(CUP, twins), BENDS), None)

    def test_sorts_of_values(self):
        b, kinds = made(CUP, BENT)
        self.assertEqual([type(b), type(kinds), type(kinds[0]), type(kinds[0][0]), type(kinds[0][0][2])],
                         [int, tuple, tuple, tuple, int])


class GoesOn(unittest.TestCase):
    def test_examples(self):
        self.assertIs(goes_on(CUP, BENT), True)
        self.assertIs(goes_on(picture=CUP, make=BENT), True)
        self.assertIs(goes_on(SNAKE, OF_PEANO), True)
        self.assertIs(goes_on(CUP, ((0, 0, 0),) * 4), False)
        self.assertIs(goes_on(SNAKE, ((0, 0, 0),) * 9), False)

    def test_against_the_words(self):
        for picture, make in some_makes():
            told = goes_on(picture, make)
            self.assertIs(told, is_path(made(picture, make)))
            with_leaps = any(
                leaps_in_words(mother_in_words(picture, make, d)) for d in range(5 if picture[0] == 2 else 4))
            if with_leaps:
                self.assertIs(told, False)
            elif not told:
                self.assertGreaterEqual(first_leap(made(picture, make))[0], 4)

    def test_peano_s_many(self):
        for seed in range(60):
            chance = random.Random(seed)
            make = list(OF_PEANO)
            for at in range(9):
                if chance.random() < 0.7:
                    # Gone backward and turned by half, Peano's thread is the same.
                    way, mirror, _ = make[at]
                    make[at] = ((way + 2) % 4, mirror, 1)
            self.assertIs(goes_on(SNAKE, tuple(make)), True)
            self.assertFalse(leaps_in_words(mother_in_words(SNAKE, tuple(make), 3)))
            make[chance.randrange(9)] = (1, 0, 0)
            expected = not leaps_in_words(mother_in_words(SNAKE, tuple(make), 3))
            self.assertIs(goes_on(SNAKE, tuple(make)), expected)


class AllMakes(unittest.TestCase):
    def test_against_all_of_them(self):
        for picture in all_pictures(2):
            expected = making_ways(picture)
            self.assertEqual(makes(picture), expected)
            self.assertEqual(makes(picture=picture), expected)
            self.assertEqual(how_many_makes(picture), len(expected))
            self.assertEqual(how_many_makes(picture=picture), len(expected))
            self.assertEqual(expected, sorted(expected))
            self.assertEqual(len(expected), 16)
            for make in expected:
                self.assertIs(goes_on(picture, make), True)

    def test_all_others_do_not_go_on(self):
        right = makes(CUP)
        for make in right:
            for at in range(4):
                for turn in ALL_TURNS:
                    told = make[:at] + (turn,) + make[at + 1:]
                    self.assertIs(goes_on(CUP, told), told in right)

    def test_twins_are_told_each(self):
        # All of them are bends, each place has two turns with one thread.
        self.assertIn(BENT, makes(CUP))
        for make in makes(CUP):
            self.assertIs(unlike(made(CUP, make), BENDS), None)
        for at in range(4):
            self.assertEqual(len({make[at] for make in makes(CUP)}), 2)
            self.assertEqual({make[at][2] for make in makes(CUP)}, {0, 1})

    def test_turned_pictures(self):
        for posture in ALL_POSTURES:
            picture = (2, tuple(cell_in_posture(2, posture, place) for place in CUP[1]))
            for make in makes(picture):
                self.assertIs(unlike(made(picture, make), turned(BENDS, posture)), None)

    def test_new_lists(self):
        told = makes(CUP)
        self.assertEqual([type(told), type(told[0]), type(told[0][0]), type(told[0][0][0])], [list, tuple, tuple, int])
        kept = list(told)
        told.clear()
        self.assertEqual(makes(CUP), kept)
        self.assertIs(type(how_many_makes(CUP)), int)


class Errors(unittest.TestCase):
    def test_the_picture_comes_first(self):
        for function in (made, goes_on):
            for wrong in (None, (4, CUP[1]), ROWS_PICTURE, [2, CUP[1]]):
                for make in (BENT, None, ((0, 0, 0),) * 9):
                    with self.assertRaises(InvalidPicture) as held:
                        function(wrong, make)
                    self.assertIs(held.exception.value, wrong)
            for make in (None, list(BENT), BENT[:3], OF_PEANO):
                with self.assertRaises(InvalidMake) as held:
                    function(CUP, make)
                self.assertIs(held.exception.value, make)


ROWS_PICTURE = (2, ((0, 0), (1, 0), (0, 1), (1, 1)))


if __name__ == "__main__":
    unittest.main()
