"""The whole program: what one function returns is taken by the others, and lists are new at every depth."""

import copy
import unittest

from samples import (
    BENDS, BENT, CUP, PEANO, ROWS, SNAKE, all_pictures, cells_in_words, cells_of_box, field_cells_in_words,
    leaps_in_words, mother_in_words, random_make, some_boxes, spans_of,
)
from squarethreads import alikes, books, drawings, fields, gaps, growth, makers, paths, readers, spans, stores, texts, threads
from squarethreads.consoles import Console
from test_gaps import gaps_in_words


def made_books():
    """Books of up to sixteen kinds, made and put into text and read."""
    told = [makers.made(CUP, make) for make in makers.makes(CUP)]
    for seed in range(6):
        for picture in (CUP, SNAKE, all_pictures(2)[3], all_pictures(3)[17]):
            told.append(makers.made(picture, random_make(seed, len(picture[1]))))
    return told + [readers.read_book(texts.show_book(book)) for book in told[-8:]]


class MadeBooks(unittest.TestCase):
    def test_books_threads_and_drawings(self):
        for book in made_books():
            self.assertIs(books.is_book(book), True)
            self.assertEqual(books.begun_at(book, 0), book)
            d = 3 if book[0] == 2 else 2
            cells = cells_in_words(book, d)
            self.assertEqual(threads.whole(book, d), cells)
            self.assertEqual(threads.whole(books.least(book), d), cells)
            self.assertEqual(threads.whole(books.backward(book), d), cells[::-1])
            self.assertEqual([threads.number_of(book, d, cell) for cell in cells], list(range(len(cells))))
            rows = drawings.numbers_drawn(book, d)
            self.assertEqual([rows[-1 - y][x] for x, y in cells], list(range(len(cells))))
            self.assertIs(alikes.unlike(book, books.least(book)), None)
            self.assertEqual(alikes.alike_in(book, book), books.postures(book))
            self.assertEqual(len(alikes.same_kinds(book)), len(books.least(book)[1]))

    def test_paths_fields_and_gaps(self):
        for book in made_books():
            found = [leaps_in_words(cells_in_words(book, d)) for d in range(5 if book[0] == 2 else 4)]
            leap = paths.first_leap(book)
            with_leaps = [d for d in range(len(found)) if found[d]]
            if with_leaps:
                self.assertEqual(leap, (with_leaps[0], found[with_leaps[0]][0]))
            else:
                self.assertTrue(leap is None or leap[0] >= len(found))
            field = fields.row_field(book, len(book[1]) - 1, 2)
            cells = field_cells_in_words(field, 2)
            self.assertEqual([fields.field_cell(field, 2, number) for number in range(len(cells))], cells)
            self.assertEqual(readers.read_field(texts.show_field(field)), field)
            gaps_of_all = gaps_in_words(book, 2)
            self.assertEqual(gaps.greatest_gap(book, 2), max(gaps_of_all.values()))
            self.assertEqual(gaps.gap_sum(book, 2), sum(gaps_of_all.values()))
            one, other = gaps.widest(book, 2)
            self.assertEqual(gaps.gap(book, 2, one, other), gaps.greatest_gap(book, 2))
            self.assertEqual(growth.sum_at(book, 2), sum(gaps_of_all.values()))

    def test_spans_and_stores(self):
        for seed, book in enumerate(made_books()):
            size = book[0] ** 2
            cells = cells_in_words(book, 2)
            for box in some_boxes(seed, size, 3):
                inside = [cells.index(cell) for cell in cells_of_box(box)]
                self.assertEqual(spans.spans(book, 2, box), spans_of(inside))
                self.assertEqual(spans.how_many(book, 2, box), len(spans_of(inside)))
                store = stores.store_of(book, 2, threads.thread(book, 2, 3, 7))
                expected = tuple(number for number in range(3, 10) if number in inside)
                self.assertEqual(stores.in_box(store, box), expected)
                self.assertEqual(stores.asked(store, box, spans.how_many(book, 2, box)), (len(expected), 0))

    def test_makes_that_go_on_are_paths(self):
        for make in makers.makes(CUP):
            for back in (make, readers.read_make(texts.show_make(make))):
                self.assertIs(paths.is_path(makers.made(CUP, back)), True)
                self.assertEqual(threads.whole(makers.made(CUP, back), 3), mother_in_words(CUP, make, 3))
        self.assertIs(fields.is_path_field(fields.row_field(makers.made(CUP, BENT), 0, 12)), True)


class PassedOn(unittest.TestCase):
    def test_from_console_to_store_and_back(self):
        console = Console()
        self.assertEqual(console.order("book b\n" + texts.show_book(makers.made(CUP, BENT))), "done")
        book = console.book("b")
        self.assertEqual(console.order("path b"), "yes")
        self.assertEqual(console.order("same b b"), "yes")
        box = readers.read_box("1 1 6 7")
        found = readers.read_spans(console.order("spans b 3 " + texts.show_box(box)))
        self.assertEqual(found, spans.spans(book, 3, box))
        numbers = tuple(number for first, behind in found for number in range(first, behind))
        self.assertIs(stores.is_store((book, 3, numbers)), True)
        store = stores.store_of(book, 3, [threads.cell_of(book, 3, number) for number in numbers])
        self.assertEqual(store, (book, 3, numbers))
        self.assertEqual(stores.in_box(store, box), numbers)
        self.assertEqual(stores.leapt(store, box), len(numbers))
        cell = readers.read_cell(console.order(f"cell b 3 {numbers[5]}"))
        self.assertEqual(stores.nearest(store, cell, 1), (numbers[5],))
        self.assertEqual(console.order(f"number b 3 {texts.show_cell(cell)}"), str(numbers[5]))
        self.assertEqual(console.order(f"next b 3 0 {texts.show_box(box)}"), str(numbers[0]))

    def test_books_kept_are_taken_by_all(self):
        console = Console()
        for name, book in (("rows", ROWS), ("bends", BENDS), ("peano", PEANO)):
            console.keep(name, book)
            console.order(f"turned t{name} {name} 3 1")
            console.order(f"backward b{name} t{name}")
            console.order(f"least l{name} b{name}")
            self.assertEqual(console.book("l" + name), books.least(books.backward(books.turned(book, (3, 1)))))
            self.assertIn(((3, 1), 1), alikes.alike_in(book, console.book("l" + name)))
            self.assertEqual(console.order(f"same b{name} l{name}"), "yes")


class Lists(unittest.TestCase):
    def returned(self):
        """All lists that the program returns, in a sequence."""
        console = Console()
        console.keep("a", ROWS)
        return [
            books.postures(BENDS), threads.thread(BENDS, 3, 5, 4), threads.whole(BENDS, 2), alikes.alike_in(BENDS, BENDS),
            growth.sums(BENDS, 4), makers.makes(CUP), drawings.drawn(BENDS, 2), drawings.numbers_drawn(BENDS, 2),
            console.names(),
        ]

    def test_new_each_time_and_each_in_one_place(self):
        first = self.returned()
        kept = copy.deepcopy(first)
        lists = [told for told in first] + [row for told in first for row in told if isinstance(row, list)]
        self.assertEqual(len({id(told) for told in lists}), len(lists))
        for told in lists:
            told.clear()
        self.assertEqual(self.returned(), kept)

    def test_one_console_s_names(self):
        console = Console()
        console.keep("a", ROWS)
        console.names().append("b")
        self.assertEqual(console.names(), ["a"])

    def test_all_else_is_of_tuples(self):
        def check(told):
            self.assertIn(type(told), (tuple, int))
            if type(told) is tuple:
                for inner in told:
                    check(inner)

        store = stores.store_of(BENDS, 2, [(0, 0), (1, 2)])
        for told in (
            spans.spans(BENDS, 2, (0, 0, 3, 3)), spans.at_most(BENDS, 2, (0, 0, 3, 3), 1), gaps.widest(BENDS, 2),
            alikes.unlike(ROWS, BENDS), alikes.same_kinds(BENDS), growth.rule(ROWS), fields.row_field(BENDS, 0, 2),
            makers.made(CUP, BENT), store, stores.in_box(store, (0, 0, 4, 4)), stores.asked(store, (0, 0, 1, 1), 1),
            stores.nearest(store, (0, 0), 2), readers.read_book(texts.show_book(BENDS)), readers.read_cell("1 2"),
            readers.read_box("0 0 1 1"), readers.read_spans("0-1 2-3"), readers.read_make(texts.show_make(BENT)),
            readers.read_field(texts.show_field(fields.row_field(BENDS, 0, 2))), *alikes.alike_in(BENDS, BENDS),
            *makers.makes(CUP), threads.kinds_on(BENDS, 2, 3), paths.ends(BENDS, 0), paths.first_leap(ROWS),
        ):
            check(told)


if __name__ == "__main__":
    unittest.main()
