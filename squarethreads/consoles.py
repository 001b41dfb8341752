"""Consoles: named books, kept and asked by orders that are texts."""

from squarethreads.alikes import unlike
from squarethreads.books import backward, check_book, least, turned
from squarethreads.errors import InvalidName, NothingToUndo, UnknownName, Unorderly
from squarethreads.gaps import gap_sum, greatest_gap
from squarethreads.growth import rule
from squarethreads.paths import first_leap, is_ring
from squarethreads.readers import read_book, told_integer
from squarethreads.spans import how_many, next_in, spans
from squarethreads.texts import show_book, show_cell, show_integers, show_spans
from squarethreads.threads import cell_of, number_of

LETTERS = "abcdefghijklmnopqrstuvwxyz"
MOST_LETTERS = 8

# The words behind the first word of each order: n for the name of a book to be kept, b for that of a kept one,
# i for an integer.
FORMS = {
    "book": "n", "turned": "nbii", "backward": "nb", "least": "nb", "drop": "b", "undo": "", "show": "b",
    "number": "biii", "cell": "bii", "path": "b", "ring": "b", "spans": "biiiii", "many": "biiiii",
    "next": "biiiiii", "gap": "bi", "sum": "bi", "rule": "b", "same": "bb", "names": "",
}


def _is_name(told):
    """Tell whether something, whatever it is, is a name for a book."""
    if not isinstance(told, str) or len(told) == 0 or len(told) > MOST_LETTERS:
        return False
    return all([sign in LETTERS for sign in told])


def _is_order(words):
    """Tell whether the words of a line are those of an order."""
    if words[0] not in FORMS:
        return False
    form = FORMS[words[0]]
    if len(words) != 1 + len(form):
        return False
    return all([_fits(form[k], words[k + 1]) for k in range(len(form))])


def _fits(sign, word):
    """Tell whether a word is what a sign of a form stands for."""
    if sign == "i":
        return told_integer(word) is not None
    return _is_name(word)


def _turned(books, integers):
    """Return the book that the order turned keeps."""
    return turned(books[0], tuple(integers))


def _backward(books, _):
    """Return the book that the order backward keeps."""
    return backward(books[0])


def _least(books, _):
    """Return the book that the order least keeps."""
    return least(books[0])


def _show(books, _):
    """Return the answer to the order show."""
    return show_book(books[0])


def _number(books, integers):
    """Return the answer to the order number."""
    d, x, y = integers
    return str(number_of(books[0], d, (x, y)))


def _cell(books, integers):
    """Return the answer to the order cell."""
    d, number = integers
    return show_cell(cell_of(books[0], d, number))


def _path(books, _):
    """Return the answer to the order path."""
    return _yes_or(first_leap(books[0]))


def _yes_or(found):
    """Return the answer for a depth and a number, or for None, if there are none."""
    if found is None:
        return "yes"
    return show_integers(found)


def _ring(books, _):
    """Return the answer to the order ring."""
    return "yes" if is_ring(books[0]) else "no"


def _spans(books, integers):
    """Return the answer to the order spans."""
    d, *box = integers
    return show_spans(spans(books[0], d, tuple(box)))


def _many(books, integers):
    """Return the answer to the order many."""
    d, *box = integers
    return str(how_many(books[0], d, tuple(box)))


def _next(books, integers):
    """Return the answer to the order next."""
    d, number, *box = integers
    found = next_in(books[0], d, tuple(box), number)
    return "none" if found is None else str(found)


def _gap(books, integers):
    """Return the answer to the order gap."""
    return str(greatest_gap(books[0], integers[0]))


def _sum(books, integers):
    """Return the answer to the order sum."""
    return str(gap_sum(books[0], integers[0]))


def _rule(books, _):
    """Return the answer to the order rule."""
    firsts, found = rule(books[0])
    return f"{show_integers(firsts)} : {show_integers(found)}"


def _same(books, _):
    """Return the answer to the order same."""
    return _yes_or(unlike(books[0], books[1]))


# Orders that keep a book made of a kept one, and orders that only ask: each is given the kept books that it names
# and its integers.
MAKERS = {"turned": _turned, "backward": _backward, "least": _least}
ANSWERERS = {
    "show": _show, "number": _number, "cell": _cell, "path": _path, "ring": _ring, "spans": _spans, "many": _many,
    "next": _next, "gap": _gap, "sum": _sum, "rule": _rule, "same": _same,
}


class Console:
    """Named books, kept, dropped and asked, and what was done to them taken back."""

    def __init__(self):
        self._books = {}
        # For each change that is not taken back the name and the book that it had before, None for none.
        self._changes = []

    def keep(self, name, book):
        """Keep a book under a name, in the place of an elder one of the name."""
        if not _is_name(name):
            raise InvalidName(name)
        check_book(book)
        self._changes.append((name, self._books.get(name)))
        self._books[name] = book

    def drop(self, name):
        """Keep the book of a name no longer."""
        self._changes.append((name, self.book(name)))
        del self._books[name]

    def undo(self):
        """Take back the last change that is not taken back."""
        if len(self._changes) == 0:
            raise NothingToUndo(0)
        name, elder = self._changes.pop()
        if elder is None:
            del self._books[name]
        else:
            self._books[name] = elder

    def book(self, name):
        """Return the book of a name."""
        if not _is_name(name) or name not in self._books:
            raise UnknownName(name)
        return self._books[name]

    def names(self):
        """Return the ascending list of the names of all books."""
        return sorted(self._books)

    def order(self, text):
        """Do what a text says, and return the answer, a text."""
        lines = text.split("\n")
        words = lines[0].split(" ")
        # A book alone comes with lines behind the first one.
        if not _is_order(words) or (words[0] == "book") != (len(lines) > 1):
            raise Unorderly(text)
        form = FORMS[words[0]]
        books = [self.book(words[k + 1]) for k in range(len(form)) if form[k] == "b"]
        integers = [told_integer(words[k + 1]) for k in range(len(form)) if form[k] == "i"]
        if words[0] in ANSWERERS:
            answer = ANSWERERS[words[0]]
            return answer(books, integers)
        if words[0] == "names":
            return "\n".join(self.names() or ["none"])
        if words[0] == "book":
            self.keep(words[1], read_book("\n".join(lines[1:])))
        elif words[0] == "drop":
            self.drop(words[1])
        elif words[0] == "undo":
            self.undo()
        else:
            make = MAKERS[words[0]]
            self.keep(words[1], make(books, integers))
        return "done"
