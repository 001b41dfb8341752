"""The thread of a book at a depth: numbers of cells, and cells of numbers."""

from squarethreads.books import check_book, places_of
from squarethreads.errors import InvalidCell, InvalidDepth, InvalidNumber
from squarethreads.integers import digits_of, is_count, is_index, power


def check_depth(d):
    """Raise InvalidDepth unless it is an integer from 0 on."""
    if not is_count(d):
        raise InvalidDepth(d)


def check_cell(book, d, cell):
    """Raise InvalidCell unless it is a cell of the depth."""
    if not is_cell(power(book[0], d), cell):
        raise InvalidCell(cell)


def is_cell(size, told):
    """Tell whether something is a cell of a square of so many cells each way."""
    if not isinstance(told, tuple) or len(told) != 2:
        return False
    return is_index(told[0], size) and is_index(told[1], size)


def check_number(book, d, number):
    """Raise InvalidNumber unless it is a number of the depth."""
    if not is_index(number, how_many_cells(book, d)):
        raise InvalidNumber(number)


def check_from_one(number):
    """Raise InvalidNumber unless it is an integer from 1 on."""
    if not is_count(number) or number == 0:
        raise InvalidNumber(number)


def how_many_cells(book, d):
    """Return how many cells the thread of a depth has."""
    return power(book[0] * book[0], d)


def number_of(book, d, cell):
    """Return the number of a cell at a depth."""
    check_book(book)
    check_depth(d)
    check_cell(book, d, cell)
    return number_in_kind(book, 0, d, cell)


def number_in_kind(book, kind, d, cell):
    """Return the number of what is known to be a cell of the depth, in the thread of a kind."""
    b, kinds = book
    rights = digits_of(cell[0], b, d)
    ups = digits_of(cell[1], b, d)
    number = 0
    for k in range(d):
        at = places_of(kinds[kind]).index((rights[k], ups[k]))
        number = number * b * b + at
        kind = kinds[kind][at][2]
    return number


def cell_of(book, d, number):
    """Return the cell of a number at a depth."""
    check_book(book)
    check_depth(d)
    check_number(book, d, number)
    return cell_in_kind(book, 0, d, number)


def cell_in_kind(book, kind, d, number):
    """Return the cell of what is known to be a number of the depth, in the thread of a kind."""
    b, kinds = book
    x = 0
    y = 0
    for digit in digits_of(number, b * b, d):
        right, up, kind = kinds[kind][digit]
        x = x * b + right
        y = y * b + up
    return (x, y)


def kinds_on(book, d, number):
    """Return the tuple of the d + 1 kinds on the way to a number, kind 0 first."""
    check_book(book)
    check_depth(d)
    check_number(book, d, number)
    b, kinds = book
    kind = 0
    way = [kind]
    for digit in digits_of(number, b * b, d):
        kind = kinds[kind][digit][2]
        way.append(kind)
    return tuple(way)


def thread(book, d, first, many):
    """Return the list of so many cells from a number on, fewer at the thread's end."""
    check_book(book)
    check_depth(d)
    check_number(book, d, first)
    if not is_count(many):
        raise InvalidNumber(many)
    behind = min(first + many, how_many_cells(book, d))
    return [cell_in_kind(book, 0, d, number) for number in range(first, behind)]


def first_cell(book, d):
    """Return the first cell of the thread of a depth."""
    return cell_of(book, d, 0)


def last_cell(book, d):
    """Return the last cell of the thread of a depth."""
    check_book(book)
    check_depth(d)
    return cell_in_kind(book, 0, d, how_many_cells(book, d) - 1)


def whole(book, d):
    """Return the list of all cells of the thread of a depth."""
    check_book(book)
    check_depth(d)
    return [cell_in_kind(book, 0, d, number) for number in range(how_many_cells(book, d))]
