"""Fields: squares side by side, in a told sequence, with one thread through all of them."""

from squarethreads.books import check_book, check_kind, is_book, places_of
from squarethreads.errors import InvalidCell, InvalidField, InvalidNumber
from squarethreads.integers import is_count, is_index, power
from squarethreads.paths import first_leap_through
from squarethreads.threads import cell_in_kind, check_depth, check_from_one, how_many_cells, number_in_kind


def is_field(told):
    """Tell whether something, whatever it is, is a field."""
    if not isinstance(told, tuple) or len(told) != 2:
        return False
    book, squares = told
    if not is_book(book):
        return False
    if not isinstance(squares, tuple) or len(squares) == 0:
        return False
    # Only what is known to be integers may go into a set: a list in a square could not.
    if not all([_is_square(len(book[1]), square) for square in squares]):
        return False
    return len(set(places_of(squares))) == len(squares)


def _is_square(many, told):
    """Tell whether something is a square of a field, the book having so many kinds."""
    if not isinstance(told, tuple) or len(told) != 3:
        return False
    x, y, kind = told
    return is_count(x) and is_count(y) and is_index(kind, many)


def check_field(field):
    """Raise InvalidField unless it is a field."""
    if not is_field(field):
        raise InvalidField(field)


def field_number(field, d, cell):
    """Return the number of a cell of a field at a depth."""
    check_field(field)
    check_depth(d)
    if not _is_field_cell(field, d, cell):
        raise InvalidCell(cell)
    book, squares = field
    size = power(book[0], d)
    at = _square_around(field, d, cell)
    inside = (cell[0] % size, cell[1] % size)
    return at * how_many_cells(book, d) + number_in_kind(book, squares[at][2], d, inside)


def _is_field_cell(field, d, told):
    """Tell whether something is a cell of a field at a depth."""
    if not isinstance(told, tuple) or len(told) != 2:
        return False
    if not is_count(told[0]) or not is_count(told[1]):
        return False
    return _square_around(field, d, told) is not None


def _square_around(field, d, cell):
    """Return the index of the square in which a cell lies at a depth, or None."""
    book, squares = field
    size = power(book[0], d)
    place = (cell[0] // size, cell[1] // size)
    places = places_of(squares)
    if place not in places:
        return None
    return places.index(place)


def field_cell(field, d, number):
    """Return the cell of a number of a field at a depth."""
    check_field(field)
    check_depth(d)
    book, squares = field
    many = how_many_cells(book, d)
    if not is_index(number, many * len(squares)):
        raise InvalidNumber(number)
    at, inside = divmod(number, many)
    x, y, kind = squares[at]
    right, up = cell_in_kind(book, kind, d, inside)
    size = power(book[0], d)
    return (x * size + right, y * size + up)


def is_path_field(field):
    """Tell whether the threads of a field at all depths are paths."""
    return first_leap_of(field) is None


def first_leap_of(field):
    """Return None, or the least depth with a leap, and the number from which the first one leads."""
    check_field(field)
    book, squares = field
    return first_leap_through(book, squares)


def row_field(book, kind, many):
    """Return the field of the book and so many squares of a kind, from the place (0, 0) to the right."""
    check_book(book)
    check_kind(book, kind)
    check_from_one(many)
    return (book, tuple([(x, 0, kind) for x in range(many)]))
