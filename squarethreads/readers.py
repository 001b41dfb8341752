"""Texts read back: what each of the file texts.py shows, from its text."""

from squarethreads.books import is_book, is_turn
from squarethreads.errors import Unreadable
from squarethreads.fields import is_field
from squarethreads.spans import is_box

MOST_DIGITS = 40


def read_book(text):
    """Return the book that has a text."""
    book = _told_book(text.split("\n"), 1)
    if not is_book(book):
        raise Unreadable(0)
    return book


def _told_book(lines, first):
    """Return what lines tell, be it a book or not; the number of the first of them is told."""
    b = _told_b(lines[0])
    if b is None:
        raise Unreadable(first)
    kinds = [_told_rows(line) for line in lines[1:]]
    if None in kinds:
        raise Unreadable(first + 1 + kinds.index(None))
    return (b, tuple(kinds))


def _told_b(line):
    """Return the integer behind the word book, or None if the line can not stand."""
    if not line.startswith("book "):
        return None
    return told_integer(line[5:])


def told_integer(word):
    """Return the integer from 0 on that a word shows, or None."""
    if not word.isascii() or not word.isdigit() or len(word) > MOST_DIGITS:
        return None
    if word.startswith("0") and word != "0":
        return None
    return int(word)


def _told_integers(words, many):
    """Return the tuple of the integers that so many words show, or None."""
    integers = [told_integer(word) for word in words]
    if len(integers) != many or None in integers:
        return None
    return tuple(integers)


def _told_rows(line):
    """Return the tuple of one or more rows of three integers, or None if the line can not stand."""
    rows = [_told_integers(row.split(" "), 3) for row in line.split(", ")]
    if None in rows:
        return None
    return tuple(rows)


def read_cell(text):
    """Return the cell that has a text."""
    return _alone(text, _told_integers(_first_line(text).split(" "), 2))


def _first_line(text):
    """Return the first line of a text."""
    return text.split("\n")[0]


def _alone(text, told):
    """Return what the first line of a text tells; raise Unreadable if that is None, or if there is more."""
    if told is None:
        raise Unreadable(1)
    if "\n" in text:
        raise Unreadable(2)
    return told


def read_box(text):
    """Return the box that has a text."""
    return _alone(text, _told_box(_first_line(text)))


def _told_box(line):
    """Return the box that a line shows, or None."""
    box = _told_integers(line.split(" "), 4)
    if not is_box(box):
        return None
    return box


def read_spans(text):
    """Return the spans that have a text."""
    return _alone(text, _told_spans(_first_line(text)))


def _told_spans(line):
    """Return the spans that a line shows, or None."""
    spans = [_told_integers(word.split("-"), 2) for word in line.split(" ")]
    if None in spans:
        return None
    ends = []
    for span in spans:
        ends.extend(span)
    # Each span begins below its end, and ends below the next one.
    if not all([ends[k] < ends[k + 1] for k in range(len(ends) - 1)]):
        return None
    return tuple(spans)


def read_field(text):
    """Return the field that has a text."""
    lines = text.split("\n")
    squares = _told_squares(lines[0])
    if squares is None:
        raise Unreadable(1)
    if len(lines) == 1:
        raise Unreadable(2)
    field = (_told_book(lines[1:], 2), squares)
    if not is_field(field):
        raise Unreadable(0)
    return field


def _told_squares(line):
    """Return the squares behind the word field, or None if the line can not stand."""
    if not line.startswith("field "):
        return None
    return _told_rows(line[6:])


def read_make(text):
    """Return the make that has a text."""
    return _alone(text, _told_make(_first_line(text)))


def _told_make(line):
    """Return the make that a line shows, or None."""
    make = _told_rows(line)
    if make is None or len(make) not in (4, 9):
        return None
    if not all([is_turn(turn) for turn in make]):
        return None
    return make
