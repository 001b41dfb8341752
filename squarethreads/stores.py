"""Stores of cells, kept by their numbers, and what of them lies in a box or near a cell."""

from squarethreads.books import check_book, is_book
from squarethreads.errors import InvalidCell, InvalidStore
from squarethreads.integers import is_count, is_index, power
from squarethreads.spans import at_most, check_box, next_in
from squarethreads.threads import (
    cell_in_kind, check_cell, check_depth, check_from_one, how_many_cells, is_cell, number_in_kind,
)


def is_store(told):
    """Tell whether something, whatever it is, is a store."""
    if not isinstance(told, tuple) or len(told) != 3:
        return False
    book, d, numbers = told
    if not is_book(book) or not is_count(d) or not isinstance(numbers, tuple):
        return False
    many = how_many_cells(book, d)
    if not all([is_index(number, many) for number in numbers]):
        return False
    return all([numbers[k] < numbers[k + 1] for k in range(len(numbers) - 1)])


def _check_store(store):
    """Raise InvalidStore unless it is a store."""
    if not is_store(store):
        raise InvalidStore(store)


def store_of(book, d, cells):
    """Return the store of a list or tuple of cells, each perhaps more than once."""
    check_book(book)
    check_depth(d)
    if not _are_cells(power(book[0], d), cells):
        raise InvalidCell(cells)
    return (book, d, tuple(sorted({number_in_kind(book, 0, d, cell) for cell in cells})))


def _are_cells(size, told):
    """Tell whether something is a list or tuple of cells of a square of so many cells each way."""
    if not isinstance(told, (list, tuple)):
        return False
    return all([is_cell(size, cell) for cell in told])


def in_box(store, box):
    """Return the ascending tuple of the stored numbers whose cells are in a box."""
    _check_store(store)
    check_box(store[0], store[1], box)
    return tuple([number for number in store[2] if _has_cell_of(store, box, number)])


def _has_cell_of(store, box, number):
    """Tell whether the cell of a stored number is in a box."""
    x, y = _stored_cell(store, number)
    left, low, right, high = box
    return left <= x < right and low <= y < high


def _stored_cell(store, number):
    """Return the cell of a stored number."""
    return cell_in_kind(store[0], 0, store[1], number)


def asked(store, box, most):
    """Return how many stored numbers of a box, and how many others, are in the spans of at_most."""
    _check_store(store)
    book, d, numbers = store
    check_box(book, d, box)
    check_from_one(most)
    found = [
        number for first, behind in at_most(book, d, box, most) for number in numbers if first <= number < behind
    ]
    inside = len(in_box(store, box))
    return (inside, len(found) - inside)


def leapt(store, box):
    """Return how many stored numbers are looked at to find those of a box, with leaps over all that none can be."""
    _check_store(store)
    book, d, numbers = store
    check_box(book, d, box)
    many = 0
    at = 0
    while at < len(numbers):
        many += 1
        if _has_cell_of(store, box, numbers[at]):
            at += 1
        else:
            at = _first_from(numbers, at, next_in(book, d, box, numbers[at]))
    return many


def _first_from(numbers, at, least):
    """Return the index, from one on, of the first number from the least one on; behind all for None."""
    if least is None:
        return len(numbers)
    while at < len(numbers) and numbers[at] < least:
        at += 1
    return at


def nearest(store, cell, k):
    """Return the tuple of the k stored numbers whose cells are nearest to a cell, nearest first."""
    _check_store(store)
    check_cell(store[0], store[1], cell)
    check_from_one(k)
    # Of cells that are as near, the second of each pair decides: the number.
    found = sorted([(_distance(cell, _stored_cell(store, number)), number) for number in store[2]])
    return tuple([number for _, number in found[:k]])


def _distance(one, other):
    """Return the sum of the differences of x and of y of two cells."""
    return abs(one[0] - other[0]) + abs(one[1] - other[1])
