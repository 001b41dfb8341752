"""Which error is raised first, with which value, of every function; nothing handed in is changed."""

import copy
import inspect
import itertools
import unittest

from samples import (
    BENDS, BENT, CUP, PEANO, ROWS, SNAKE, random_book, random_make, wrong_books, wrong_boxes, wrong_fields, wrong_makes,
    wrong_pictures, wrong_stores,
)
from squarethreads import (
    alikes, books, drawings, errors, fields, gaps, growth, makers, paths, spans, stores, threads,
)

# Of each function the arguments, in the sequence in which the sections list their errors.
ARGUMENTS = {
    books.begun_at: ("book", "kind"),
    books.least: ("book",),
    books.turned: ("book", "posture"),
    books.backward: ("book",),
    books.postures: ("book",),
    threads.number_of: ("book", "d", "cell"),
    threads.cell_of: ("book", "d", "number"),
    threads.kinds_on: ("book", "d", "number"),
    threads.thread: ("book", "d", "first", "many"),
    threads.first_cell: ("book", "d"),
    threads.last_cell: ("book", "d"),
    threads.whole: ("book", "d"),
    paths.is_path: ("book",),
    paths.is_path_at: ("book", "d"),
    paths.first_leap: ("book",),
    paths.is_ring: ("book",),
    paths.leaps: ("book", "d"),
    paths.ends: ("book", "kind"),
    growth.sums: ("book", "n"),
    growth.rule: ("book",),
    growth.sum_at: ("book", "d"),
    fields.field_number: ("field", "d", "cell"),
    fields.field_cell: ("field", "d", "number"),
    fields.is_path_field: ("field",),
    fields.first_leap_of: ("field",),
    fields.row_field: ("book", "kind", "many"),
    drawings.drawn: ("book", "d"),
    drawings.numbers_drawn: ("book", "d"),
    spans.spans: ("book", "d", "box"),
    spans.how_many: ("book", "d", "box"),
    spans.cells_in: ("book", "d", "box"),
    spans.next_in: ("book", "d", "box", "number"),
    spans.last_in: ("book", "d", "box", "number"),
    spans.at_most: ("book", "d", "box", "most"),
    gaps.gap: ("book", "d", "one", "other"),
    gaps.greatest_gap: ("book", "d"),
    gaps.widest: ("book", "d"),
    gaps.gap_sum: ("book", "d"),
    alikes.unlike: ("one", "other"),
    alikes.alike_in: ("one", "other"),
    alikes.same_kinds: ("book",),
    makers.is_make: ("picture", "told"),
    makers.made: ("picture", "make"),
    makers.goes_on: ("picture", "make"),
    makers.makes: ("picture",),
    makers.how_many_makes: ("picture",),
    stores.store_of: ("book", "d", "cells"),
    stores.in_box: ("store", "box"),
    stores.asked: ("store", "box", "most"),
    stores.leapt: ("store", "box"),
    stores.nearest: ("store", "cell", "k"),
}
# What sort an argument is of, where its name does not tell it.
SORTS = {
    (gaps.gap, "one"): "cell", (gaps.gap, "other"): "cell",
    (gaps.greatest_gap, "d"): "deep", (gaps.widest, "d"): "deep", (fields.row_field, "many"): "most",
    (alikes.unlike, "one"): "book", (alikes.unlike, "other"): "book",
    (alikes.alike_in, "one"): "book", (alikes.alike_in, "other"): "book",
    (makers.is_make, "told"): "anything", (stores.nearest, "k"): "most",
    (fields.field_number, "cell"): "field's cell", (fields.field_cell, "number"): "field's number",
}
ERRORS = {
    "book": errors.InvalidBook, "kind": errors.InvalidKind, "posture": errors.InvalidPosture,
    "d": errors.InvalidDepth, "cell": errors.InvalidCell, "number": errors.InvalidNumber,
    "first": errors.InvalidNumber, "many": errors.InvalidNumber, "n": errors.InvalidDepth, "field": errors.InvalidField,
    "box": errors.InvalidBox, "most": errors.InvalidNumber, "deep": errors.InvalidDepth,
    "field's cell": errors.InvalidCell, "field's number": errors.InvalidNumber, "picture": errors.InvalidPicture,
    "make": errors.InvalidMake, "store": errors.InvalidStore, "cells": errors.InvalidCell,
}
RIGHT = {
    "kind": 0, "posture": (3, 1), "d": 2, "n": 2, "cell": (1, 2), "number": 7, "first": 3, "many": 2, "deep": 2,
    "box": (1, 0, 3, 2), "most": 2, "field's cell": (1, 2), "field's number": 7, "cells": [(1, 2), (0, 0), (1, 2)],
    "picture": CUP, "make": BENT, "anything": BENT,
}
GROWTH = (growth.sums, growth.rule, growth.sum_at)
# The place (0, 0) among them, so that the right cell of a thread is one of the field, too.
PLACES = ((1, 0), (0, 0), (0, 2), (1, 3))
NO_INTEGERS = [None, True, False, "", "0", "1", b"0", 0.0, 1.5, (), (0,), [], [0], {}, {0: 0}, {0}]
NO_COUNTS = NO_INTEGERS + [-1, -2, -10 ** 40]


def sort_of(function, name):
    """What sort an argument of a function is of."""
    return SORTS.get((function, name), name)


def wrong_indexes(many):
    """What is no integer from 0 on, below so many: also just too great and far too great."""
    return NO_COUNTS + [many, many + 1, 2 * many + 5, 10 ** 60]


def wrong_pairs(right, far):
    """What is no pair of integers in the limits; right is a right one, far integers that none of it can be."""
    x, y = right
    pairs = [
        None, True, False, 0, 1, -1, "", "00", b"00", 0.0, [], [x, y], (), (x,), (y,), (x, y, 0), (x, y, None),
        ((x, y),), [(x, y)], {}, {x: y}, {0: 0, 1: 1}, {x, y}, ((x, y), (x, y)), (x, [y]), ([x], y), ((x,), (y,)),
    ]
    pairs += [(wrong, y) for wrong in NO_COUNTS + far]
    pairs += [(x, wrong) for wrong in NO_COUNTS + far]
    pairs += [(-1, far[0]), (far[0], far[-1]), (None, None), (True, True), (False, False)]
    return pairs


def wrong_postures():
    pairs = wrong_pairs((1, 1), [4, 5, 10 ** 30])
    return pairs + [(0, 2), (3, 2), (3, 3), (0, -1), (4, 0), (-1, 1), (0, True), (True, 0), ((0, 0), 0)]


def right_values(function, book, d=2):
    """Right values of all arguments of a function, for a book and a depth."""
    last = len(book[1]) - 1
    of_sorts = dict(RIGHT, book=book, d=d, deep=d, field=(book, tuple((x, y, last) for x, y in PLACES)))
    of_sorts["store"] = (book, d, (0, 3, 5, 11))
    if book[0] == 3 and function in (makers.made, makers.goes_on):
        of_sorts["picture"], of_sorts["make"] = SNAKE, random_make(0, 9)
    return {name: of_sorts[sort_of(function, name)] for name in ARGUMENTS[function]}


def wrongs(sort, book, d):
    """Wrong values of a sort, for a book and a depth."""
    size = book[0] ** d
    if sort == "book":
        return wrong_books()
    if sort == "field":
        return wrong_fields()
    if sort == "box":
        return wrong_boxes(size)
    if sort == "store":
        return wrong_stores()
    if sort == "picture":
        return wrong_pictures()
    if sort == "make":
        return wrong_makes(CUP if book[0] == 2 else SNAKE)
    if sort == "anything":
        return []
    if sort == "cells":
        cells = wrong_pairs((size - 1, size - 1), [size, size + 1, 3 * size, 10 ** 60])
        wrong = [[cell] for cell in cells] + [((0, 0), cell, (0, 0)) for cell in cells] + [[(0, 0), cell] for cell in cells]
        none = [told for told in cells if not isinstance(told, (list, tuple))]
        return wrong + none + [set(), {(0, 0)}, {(0, 0): 0}, range(0), "", b"", (0, 0), [0, 0], (0,), [None], [[]], ((),)]
    if sort == "field's cell":
        return wrong_pairs((size, 0), [5 * size, 10 ** 60]) + [
            (0, 3 * size), (size, size), (0, 2 * size - 1), (2 * size, 0), (2 * size - 1, size), (size, 4 * size)]
    if sort == "field's number":
        return wrong_indexes(len(PLACES) * size * size)
    if sort in ("most", "deep"):
        return NO_COUNTS + [0]
    if sort == "kind":
        return wrong_indexes(len(book[1]))
    if sort == "posture":
        return wrong_postures()
    if sort == "cell":
        return wrong_pairs((size - 1, size - 1), [size, size + 1, 3 * size, 10 ** 60])
    if sort in ("number", "first"):
        return wrong_indexes(size * size)
    return NO_COUNTS


class Errors(unittest.TestCase):
    def assert_raises(self, function, names, values, expected):
        """The error of the expected argument is raised, with its value, by position and by name."""
        before = copy.deepcopy(values)
        wrong = values[names.index(expected)]
        for by_name in (False, True):
            with self.assertRaises(errors.ThreadError, msg=f"{function.__name__} {values!r}") as held:
                if by_name:
                    function(**dict(zip(names, values)))
                else:
                    function(*values)
            error = ERRORS[sort_of(function, expected)]
            self.assertIs(type(held.exception), error, f"{function.__name__} {values!r}")
            self.assertIs(held.exception.value, wrong, f"{function.__name__} {values!r}")
            self.assertEqual(repr(values), repr(before))

    def test_names_of_the_arguments(self):
        for function in (books.is_book, fields.is_field, makers.is_picture, stores.is_store):
            self.assertEqual(tuple(inspect.signature(function).parameters), ("told",))
        for function, names in ARGUMENTS.items():
            self.assertEqual(tuple(inspect.signature(function).parameters), names)

    def test_right_ones_raise_nothing(self):
        for function, names in ARGUMENTS.items():
            # Gap sums are for books of few kinds.
            for book in (ROWS, BENDS, PEANO, random_book(4, 3, 4 if function in GROWTH else 20)):
                right = right_values(function, book)
                values = [right[name] for name in names]
                before = copy.deepcopy(values)
                self.assertEqual(function(*values), function(**dict(zip(names, values))))
                self.assertEqual(values, before)

    def test_one_wrong(self):
        for function, names in ARGUMENTS.items():
            for book, d in ((ROWS, 2), (BENDS, 3), (PEANO, 2)):
                right = right_values(function, book, d)
                for name in names:
                    sort = sort_of(function, name)
                    if sort in ("book", "field", "store", "picture") and book != ROWS:
                        # What is no book, no field, no store and no picture is so whatever the others are.
                        continue
                    for wrong in wrongs(sort, book, d):
                        values = [wrong if other == name else right[other] for other in names]
                        self.assert_raises(function, names, values, name)

    def test_several_wrong(self):
        few = {
            "book": [None, [2, ROWS[1]], (4, ROWS[1]), (2, ((ROWS[1][0][:3]),))], "kind": [-1, True, 99, None, [0]],
            "posture": [(4, 0), [0, 0], (0, True), None], "d": [-1, True, None, "2", (2,)],
            "cell": [(-1, 0), [0, 0], (0, 999), None, (0, False)], "number": [-1, 99999, True, None],
            "first": [-2, 99999, True, None], "many": [-3, False, None, [1]], "n": [-1, False, None, [2]],
            "field": [None, BENDS, [BENDS, ((0, 0, 0),)], (BENDS, ()), (BENDS, ((0, 0, 4),)), (BENDS, [(0, 0, 0)])],
            "box": [(0, 0, 0, 1), (0, 0, 5, 1), [0, 0, 1, 1], (1, 0, 0, 1), None], "most": [0, -1, True, None],
            "deep": [0, -1, True, None], "cells": [None, [(0, 4)], ((0, 0), [0, 0]), {}],
            "store": [None, BENDS, [BENDS, 2, ()], (BENDS, 2, [3]), (BENDS, 2, (3, 3)), (BENDS, True, ()), (BENDS, 0, (1,))],
            "picture": [None, (2, CUP[1][:3]), [2, CUP[1]], (3, CUP[1])], "anything": [None, 0, [BENT]],
            "make": [None, BENT[:3], list(BENT), (0, 0, 0), BENT[:3] + ((4, 0, 0),)],
        }
        few["field's cell"], few["field's number"] = few["cell"], few["number"]
        for function, names in ARGUMENTS.items():
            right = right_values(function, BENDS)
            for which in itertools.product((False, True), repeat=len(names)):
                if not any(which) or sort_of(function, names[which.index(True)]) == "anything":
                    continue
                first = names[which.index(True)]
                choices = [few[sort_of(function, name)] if wrong else [right[name]] for name, wrong in zip(names, which)]
                for values in itertools.product(*choices):
                    self.assert_raises(function, names, list(values), first)

    def test_at_the_edges_of_depths(self):
        for book in (ROWS, PEANO, random_book(5, 2, 20)):
            for d in (0, 1, 60):
                size = book[0] ** d
                names = ARGUMENTS[threads.number_of]
                for cell in ((size, 0), (0, size), (size, size), (-1, 0), (0, -1), (size - 1, size), (size, size - 1)):
                    self.assert_raises(threads.number_of, names, [book, d, cell], "cell")
                for function in (threads.cell_of, threads.kinds_on):
                    for number in (-1, size * size, size * size + 1):
                        self.assert_raises(function, ("book", "d", "number"), [book, d, number], "number")
                for first in (-1, size * size, size * size + 1):
                    for many in (0, 1, -1):
                        names = ARGUMENTS[threads.thread]
                        self.assert_raises(threads.thread, names, [book, d, first, many], "first")
                self.assert_raises(threads.thread, names, [book, d, size * size - 1, -1], "many")

    def test_fields_at_the_edges_of_depths(self):
        for book in (ROWS, PEANO, random_book(5, 2, 20)):
            for d in (0, 1, 60):
                size = book[0] ** d
                field = right_values(fields.field_cell, book)["field"]
                names = ARGUMENTS[fields.field_number]
                for cell in ((2 * size, 0), (0, size), (size, size), (-1, 0), (0, -1), (0, 3 * size),
                             (size, 2 * size), (2 * size - 1, size), (size, 4 * size)):
                    self.assert_raises(fields.field_number, names, [field, d, cell], "cell")
                for number in (-1, 4 * size * size, 4 * size * size + 1):
                    self.assert_raises(fields.field_cell, ARGUMENTS[fields.field_cell], [field, d, number], "number")

    def test_negative_depths_and_none_but_integers(self):
        for function, names in ARGUMENTS.items():
            for name in ("d", "n"):
                if name in names:
                    for wrong in NO_COUNTS:
                        values = [dict(right_values(function, BENDS), **{name: wrong})[other] for other in names]
                        self.assert_raises(function, names, values, name)
        for function in (gaps.greatest_gap, gaps.widest):
            self.assert_raises(function, ("book", "d"), [BENDS, 0], "d")

    def test_boxes_at_the_edges_of_depths(self):
        for book in (ROWS, PEANO, random_book(5, 2, 20)):
            for d in (0, 1, 60):
                size = book[0] ** d
                for function in (spans.spans, spans.how_many, spans.cells_in, spans.next_in, spans.last_in,
                                 spans.at_most):
                    names = ARGUMENTS[function]
                    for box in ((0, 0, size + 1, size), (0, 0, size, size + 1), (-1, 0, size, size), (0, 0, 0, 1),
                                (0, -1, size, size), (size, 0, size, 1), (0, size, 1, size), (size, 0, size + 1, 1)):
                        # The box comes before the number, be that right or wrong.
                        for number in (1, -1):
                            values = [book, d, box, number][:len(names)]
                            self.assert_raises(function, names, values, "box")
                box = (0, 0, size, size)
                for function in (spans.next_in, spans.last_in):
                    for number in (-1, size * size, size * size + 1):
                        self.assert_raises(function, ARGUMENTS[function], [book, d, box, number], "number")
                names = ARGUMENTS[gaps.gap]
                for cell in ((size, 0), (0, size), (-1, 0), (0, -1)):
                    self.assert_raises(gaps.gap, names, [book, d, cell, (0, 0)], "one")
                    self.assert_raises(gaps.gap, names, [book, d, (0, 0), cell], "other")
                    self.assert_raises(gaps.gap, names, [book, d, cell, (-1, -1)], "one")

    def test_kinds_at_the_edges(self):
        for many in (1, 2, 20):
            book = random_book(6, 2, many)
            for kind in (-many, -1, many, many + 1):
                self.assert_raises(books.begun_at, ("book", "kind"), [book, kind], "kind")
                self.assert_raises(paths.ends, ("book", "kind"), [book, kind], "kind")
                for number in (1, 0):
                    self.assert_raises(fields.row_field, ("book", "kind", "many"), [book, kind, number], "kind")

    def test_a_call_that_raises_changes_no_later_answer(self):
        def answers():
            two = fields.row_field(BENDS, 1, 2)
            return [threads.whole(BENDS, 2), books.postures(BENDS), books.least(BENDS), growth.sums(BENDS, 5),
                    paths.first_leap(BENDS), drawings.drawn(BENDS, 2), two, fields.first_leap_of(two),
                    spans.spans(BENDS, 2, (0, 1, 3, 3)), gaps.widest(BENDS, 2), alikes.alike_in(BENDS, BENDS),
                    makers.makes(CUP), stores.nearest((BENDS, 2, (3, 7)), (0, 0), 1)]

        before = answers()
        for wrong in wrong_books():
            for function in (books.postures, growth.rule, paths.first_leap, paths.is_ring):
                self.assertRaises(errors.InvalidBook, function, wrong)
        self.assertRaises(errors.InvalidNumber, threads.thread, BENDS, 2, 3, -1)
        self.assertRaises(errors.InvalidDepth, growth.sums, BENDS, -1)
        self.assertRaises(errors.InvalidField, fields.first_leap_of, (BENDS, ()))
        self.assertRaises(errors.InvalidBox, spans.spans, BENDS, 2, (0, 0, 5, 5))
        self.assertRaises(errors.InvalidPair, alikes.alike_in, BENDS, PEANO)
        self.assertRaises(errors.InvalidMake, makers.made, CUP, BENT[:3])
        self.assertRaises(errors.InvalidNumber, stores.nearest, (BENDS, 2, (3, 7)), (0, 0), 0)
        self.assertEqual(answers(), before)

    def test_lists_that_are_wrong_stay_as_they_are(self):
        told = [2, [[[0, 0, 0], [1, 0, 0], [0, 1, 0], [1, 1, 0]]]]
        before = copy.deepcopy(told)
        self.assertIs(books.is_book(told), False)
        for function, names in ARGUMENTS.items():
            of_sorts = dict(RIGHT, book=told, field=(told, ((0, 0, 0),)), store=(told, 2, (3,)))
            if names[0] == "picture":
                of_sorts["picture"] = told
            values = [of_sorts[sort_of(function, name)] for name in names]
            self.assert_raises(function, names, values, names[0])
        self.assertEqual(told, before)


if __name__ == "__main__":
    unittest.main()
