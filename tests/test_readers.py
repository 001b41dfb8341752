"""readers.py: the texts of texts.py read back, and the line that is named where a text is none of them."""

import random
import re
import unittest

from samples import BENDS, PEANO, ROWS, large_books, random_book, small_books, some_boxes
from squarethreads.books import is_book
from squarethreads.errors import Unreadable
from squarethreads.fields import is_field, row_field
from squarethreads.readers import read_book, read_box, read_cell, read_field, read_make, read_spans
from squarethreads.spans import at_most, spans
from squarethreads.texts import show_book, show_box, show_cell, show_field, show_make, show_spans
from test_fields import random_field, small_fields

ALL_TURNS = [(way, mirror, back) for way in range(4) for mirror in range(2) for back in range(2)]
GREAT = 10 ** 40 - 1
# No integers as the texts have them.
NO_INTEGERS = (
    "", "-1", "-0", "+1", "00", "01", "007", "1.0", "1e3", "0x1", "1_0", "a", "A", "o", " 1", "1 ", "1,", ",1", "1-",
    "one", "1" + "0" * 40, "9" * 41, "0" * 40, "0" * 41, "(1", "1)", "'1'", "None", "True", "--1", "1 1", ".", ";",
)


def integer_in_words(word):
    """The integer that a word shows as the document says, or None."""
    return int(word) if re.fullmatch("0|[1-9][0-9]{0,39}", word) else None


def rows_in_words(text, many=3):
    """Rows of so many integers between which stand a comma and a space, or None."""
    rows = [[integer_in_words(word) for word in row.split(" ")] for row in text.split(", ")]
    if any(len(row) != many or None in row for row in rows):
        return None
    return tuple(tuple(row) for row in rows)


def book_in_words(lines, first):
    """(book, None), or (None, number): lines that tell a book, numbered from the first on."""
    head = re.fullmatch("book (.*)", lines[0])
    if not head or integer_in_words(head[1]) is None:
        return None, first
    for number, line in enumerate(lines[1:]):
        if rows_in_words(line) is None:
            return None, first + 1 + number
    return (integer_in_words(head[1]), tuple(rows_in_words(line) for line in lines[1:])), None


def outcome_in_words(text, sort):
    """What a text is read as, ("right", value) or ("wrong", number of the line)."""
    lines = text.split("\n")
    if sort == "book":
        book, wrong = book_in_words(lines, 1)
        wrong = 0 if wrong is None and not is_book(book) else wrong
        return ("right", book) if wrong is None else ("wrong", wrong)
    if sort == "field":
        head = re.fullmatch("field (.*)", lines[0])
        if not head or rows_in_words(head[1]) is None:
            return ("wrong", 1)
        if len(lines) == 1:
            return ("wrong", 2)
        book, wrong = book_in_words(lines[1:], 2)
        field = (book, rows_in_words(head[1]))
        wrong = 0 if wrong is None and not is_field(field) else wrong
        return ("right", field) if wrong is None else ("wrong", wrong)
    told = line_in_words(lines[0], sort)
    if told is None or len(lines) > 1:
        return ("wrong", 1 if told is None else 2)
    return ("right", told)


def line_in_words(line, sort):
    """The value of a line of a sort that is of one line, or None."""
    if sort == "spans":
        rows = [[integer_in_words(word) for word in span.split("-")] for span in line.split(" ")]
        if any(len(row) != 2 or None in row or row[0] >= row[1] for row in rows):
            return None
        if any(rows[k][1] >= rows[k + 1][0] for k in range(len(rows) - 1)):
            return None
        return tuple((first, behind) for first, behind in rows)
    if sort == "make":
        rows = rows_in_words(line)
        if rows is None or len(rows) not in (4, 9) or any(row not in ALL_TURNS for row in rows):
            return None
        return rows
    rows = rows_in_words(line, 2 if sort == "cell" else 4)
    if rows is None or len(rows) != 1:
        return None
    if sort == "box" and not (rows[0][0] < rows[0][2] and rows[0][1] < rows[0][3]):
        return None
    return rows[0]


READERS = {"book": read_book, "cell": read_cell, "box": read_box, "spans": read_spans, "field": read_field,
           "make": read_make}


class Reading(unittest.TestCase):
    def assert_unreadable(self, reader, text, number):
        for by_name in (False, True):
            with self.assertRaises(Unreadable, msg=repr(text)) as held:
                reader(text=text) if by_name else reader(text)
            self.assertEqual(held.exception.value, number, repr(text))
            self.assertIs(type(held.exception.value), int)

    def assert_as_in_words(self, sort, text):
        """What is read is what the words say; returns whether it is right."""
        outcome, value = outcome_in_words(text, sort)
        if outcome == "right":
            self.assertEqual(READERS[sort](text), value, repr(text))
            self.assertEqual(READERS[sort](text=text), value)
        else:
            self.assert_unreadable(READERS[sort], text, value)
        return outcome == "right"

    def assert_changes_as_in_words(self, sort, text):
        """One sign put otherwise, left out, put in or twice at any place; returns how many are right still."""
        right = 0
        for at in range(len(text) + 1):
            for sign in "01239, -\nbofk.+":
                right += self.assert_as_in_words(sort, text[:at] + sign + text[at:])
                right += self.assert_as_in_words(sort, text[:at] + sign + text[at + 1:])
            right += self.assert_as_in_words(sort, text[:at] + text[at + 1:])
            right += self.assert_as_in_words(sort, text[:at] + text[at:at + 1] + text[at:])
            right += self.assert_as_in_words(sort, text[:at])
            right += self.assert_as_in_words(sort, text[at:])
        return right


class Books(Reading):
    def test_all_that_is_shown(self):
        for book in small_books() + large_books():
            self.assertEqual(read_book(show_book(book)), book)
            self.assertEqual(read_book(text=show_book(book)), book)

    def test_sorts_of_values(self):
        b, kinds = read_book(show_book(BENDS))
        self.assertEqual([type(b), type(kinds), type(kinds[0]), type(kinds[0][0]), type(kinds[0][0][0])],
                         [int, tuple, tuple, tuple, int])

    def test_one_sign(self):
        self.assertGreater(self.assert_changes_as_in_words("book", show_book(ROWS)), 5)
        two = random_book(2, 2, 2)
        self.assertGreater(self.assert_changes_as_in_words("book", show_book(two)), 5)
        self.assert_changes_as_in_words("book", show_book(random_book(2, 3, 1)))

    def test_first_line(self):
        rest = show_book(ROWS)[6:]
        for word in NO_INTEGERS:
            self.assert_unreadable(read_book, "book " + word + rest, 1)
        for line in ("", "book", "book ", "Book 2", "BOOK 2", "book2", "book  2", " book 2", "book 2 ", "books 2",
                     "book 2 2", "book two", "2", "book\t2", "field 0 0 0", "0 0 0", "book 2,"):
            self.assert_unreadable(read_book, line + rest, 1)
            self.assert_unreadable(read_book, line, 1)
            # All the other lines wrong, too.
            self.assert_unreadable(read_book, line + "\n\nbook\n", 1)

    def test_any_integer_can_stand(self):
        rest = show_book(ROWS)[6:]
        for word in ("0", "1", "3", "4", "10", "22", str(GREAT)):
            self.assert_unreadable(read_book, "book " + word + rest, 0)
            self.assert_unreadable(read_book, "book " + word, 0)
            self.assert_unreadable(read_book, "book " + word + rest + "\n", 3)
        self.assertEqual(read_book("book 2" + rest), ROWS)
        self.assert_unreadable(read_book, "book 2", 0)

    def test_lines_of_kinds(self):
        lines = show_book(random_book(3, 2, 4)).split("\n")
        for at in range(1, 5):
            for wrong in ("", " ", "0", "0 0", "0 0 0,", ", 0 0 0", "0 0 0 0", "0 0 0,1 0 0", "0 0 0 , 1 0 0",
                          "0 0 0,  1 0 0", "0 0 0, 1 0", "0 0 0, 1 0 0 0", "0 0 0, , 1 0 0", " 0 0 0", "0 0 0 ",
                          "0  0 0", "0,0,0", "book 2", "0 0 0; 1 0 0", "0 0 -1", "0 0 01", "x 0 0", "0 0 " + "9" * 41):
                self.assert_unreadable(read_book, "\n".join(lines[:at] + [wrong] + lines[at + 1:]), at + 1)
                self.assert_unreadable(read_book, "\n".join(lines[:at] + [wrong] + lines[at:]), at + 1)
                # The first of several.
                self.assert_unreadable(read_book, "\n".join(lines[:at] + [wrong, "", "0"]), at + 1)
            # Lines that can stand, but are no kinds of the book.
            for right in ("0 0 0", "0 0 4, 1 0 0, 0 1 0, 1 1 0", "2 0 0, 1 0 0, 0 1 0, 1 1 0",
                          "0 0 0, 0 0 0, 0 1 0, 1 1 0", lines[at] + ", 0 0 0", str(GREAT) + " 0 0"):
                self.assert_unreadable(read_book, "\n".join(lines[:at] + [right] + lines[at + 1:]), 0)
                self.assert_unreadable(read_book, "\n".join(lines[:at] + [right] + lines[at + 1:] + [""]), 6)

    def test_integers(self):
        for word in NO_INTEGERS:
            self.assert_unreadable(read_book, "book 2\n0 0 0, 1 0 0, 0 1 " + word + ", 1 1 0", 2)
        for word in ("1", "7", "10", "1" + "0" * 39, str(GREAT)):
            self.assert_unreadable(read_book, "book 2\n0 0 0, 1 0 0, 0 1 " + word + ", 1 1 0", 0)

    def test_ends(self):
        for book in (ROWS, BENDS, PEANO):
            text = show_book(book)
            self.assert_unreadable(read_book, text + "\n", len(book[1]) + 2)
            self.assert_unreadable(read_book, text + "\n\n", len(book[1]) + 2)
            self.assert_unreadable(read_book, "\n" + text, 1)
            self.assert_unreadable(read_book, text.replace("\n", "\n\n", 1), 2)
            self.assert_unreadable(read_book, text + " ", len(book[1]) + 1)
            self.assert_unreadable(read_book, text + ",", len(book[1]) + 1)
            self.assert_unreadable(read_book, text + ", ", len(book[1]) + 1)
            self.assert_unreadable(read_book, text + "\n" + text.split("\n")[0], len(book[1]) + 2)
        self.assert_unreadable(read_book, "", 1)
        # A kind more is a kind that nothing leads to.
        self.assertEqual(read_book(show_book(ROWS) + "\n0 0 1, 1 0 1, 0 1 0, 1 1 0"),
                         (2, ROWS[1] + (((0, 0, 1), (1, 0, 1), (0, 1, 0), (1, 1, 0)),)))


class Fields(Reading):
    def test_all_that_is_shown(self):
        for field in small_fields():
            self.assertEqual(read_field(show_field(field)), field)
            self.assertEqual(read_field(text=show_field(field)), field)
        far = (ROWS, ((GREAT, 0, 0), (0, GREAT, 0)))
        self.assertEqual(read_field(show_field(far)), far)

    def test_sorts_of_values(self):
        field = read_field(show_field(row_field(BENDS, 1, 2)))
        self.assertEqual([type(field), type(field[1]), type(field[1][1]), type(field[1][1][0])],
                         [tuple, tuple, tuple, int])

    def test_one_sign(self):
        self.assertGreater(self.assert_changes_as_in_words("field", show_field(row_field(ROWS, 0, 2))), 5)
        self.assert_changes_as_in_words("field", show_field(random_field(1, random_book(2, 2, 2), 3, 3)))

    def test_the_line_that_lacks(self):
        self.assert_unreadable(read_field, "field 0 0 0", 2)
        self.assert_unreadable(read_field, "field 0 0 0, 1 0 0", 2)
        self.assert_unreadable(read_field, "field 0 0 0\n", 2)
        self.assert_unreadable(read_field, "field 0 0 0\nbook", 2)
        self.assert_unreadable(read_field, "field 0 0 0\n" + show_book(ROWS)[7:], 2)
        # No kinds at all: all lines can stand.
        self.assert_unreadable(read_field, "field 0 0 0\nbook 2", 0)
        self.assert_unreadable(read_field, "field 0 0 0\nbook 5", 0)
        self.assert_unreadable(read_field, "field 0 0 0\nbook 2\n", 3)

    def test_first_line(self):
        rest = "\n" + show_book(ROWS)
        for line in ("", "field", "field ", "Field 0 0 0", "field0 0 0", "field  0 0 0", " field 0 0 0", "field 0 0 0 ",
                     "field 0 0", "field 0 0 0 0", "field 0 0 0,1 0 0", "field 0 0 0,", "field 0 0 -1", "0 0 0",
                     "field, 0 0 0", "book 2", "field 00 0 0", "field 0 0 " + "1" * 41, "field 0 0 0, field 1 0 0"):
            self.assert_unreadable(read_field, line + rest, 1)
            self.assert_unreadable(read_field, line, 1)
            self.assert_unreadable(read_field, line + "\nbook\n", 1)

    def test_no_fields(self):
        rest = "\n" + show_book(ROWS)
        # A place twice, no kind of the book.
        for line in ("field 0 0 0, 0 0 0", "field 0 0 1", "field 1 0 0, 2 0 0, 1 0 0", "field 0 0 " + str(GREAT)):
            self.assert_unreadable(read_field, line + rest, 0)
            self.assert_unreadable(read_field, line + rest + "\n", 4)
            self.assert_unreadable(read_field, line, 2)
        # The book is none.
        self.assert_unreadable(read_field, "field 0 0 0\nbook 3" + rest[7:], 0)
        self.assert_unreadable(read_field, "field 0 0 0\nbook 2\n0 0 0", 0)

    def test_lines_of_the_book(self):
        lines = show_field(row_field(random_book(3, 2, 4), 0, 2)).split("\n")
        for at in range(2, 6):
            for wrong in ("", "0 0", "0 0 0,1 0 0", "book 2", "field 0 0 0", "0 0 0 ", "0 0 a"):
                self.assert_unreadable(read_field, "\n".join(lines[:at] + [wrong] + lines[at + 1:]), at + 1)
                self.assert_unreadable(read_field, "\n".join(lines[:at] + [wrong, "", ""]), at + 1)
        for word in NO_INTEGERS:
            self.assert_unreadable(read_field, "\n".join(lines[:1] + ["book " + word] + lines[2:]), 2)
        self.assert_unreadable(read_field, "\n".join(lines) + "\n", 7)
        self.assert_unreadable(read_field, "\n" + "\n".join(lines), 1)
        self.assert_unreadable(read_field, show_book(ROWS), 1)
        self.assert_unreadable(read_book, "\n".join(lines), 1)


class OneLine(Reading):
    def test_all_that_is_shown(self):
        for cell in ((0, 0), (1, 2), (10, 0), (GREAT, GREAT), (2 ** 60, 3 ** 60)):
            self.assertEqual(read_cell(show_cell(cell)), cell)
            self.assertEqual(read_cell(text=show_cell(cell)), cell)
        for size in (1, 8, 3 ** 60):
            for box in some_boxes(1, size, 5):
                self.assertEqual(read_box(show_box(box)), box)
                self.assertEqual(read_box(text=show_box(box)), box)
        for book in small_books():
            for box in some_boxes(2, book[0] ** 3, 5):
                told = spans(book, 3, box)
                self.assertEqual(read_spans(show_spans(told)), told)
                self.assertEqual(read_spans(text=show_spans(told)), told)
                told = at_most(book, 3, box, 3)
                self.assertEqual(read_spans(show_spans(told)), told)
        told = tuple((10 ** 39 + 2 * k, 10 ** 39 + 2 * k + 1) for k in range(100))
        self.assertEqual(read_spans(show_spans(told)), told)
        chance = random.Random(4)
        for many in (4, 9):
            for _ in range(40):
                make = tuple(chance.choice(ALL_TURNS) for _ in range(many))
                self.assertEqual(read_make(show_make(make)), make)
                self.assertEqual(read_make(text=show_make(make)), make)

    def test_sorts_of_values(self):
        self.assertEqual([type(told) for told in (read_cell("1 2"), read_cell("1 2")[0], read_box("0 0 1 1"))],
                         [tuple, int, tuple])
        told = read_spans("1-2 4-5")
        self.assertEqual([type(told), type(told[0]), type(told[0][0])], [tuple, tuple, int])
        told = read_make("0 0 0, 0 0 0, 0 0 0, 0 0 1")
        self.assertEqual([type(told), type(told[0]), type(told[0][0])], [tuple, tuple, int])

    def test_one_sign(self):
        self.assertGreater(self.assert_changes_as_in_words("cell", "10 2"), 50)
        self.assertGreater(self.assert_changes_as_in_words("box", "1 0 20 3"), 50)
        self.assertGreater(self.assert_changes_as_in_words("spans", "0-5 6-7 19-20"), 50)
        self.assertGreater(self.assert_changes_as_in_words("spans", "3-12"), 20)
        self.assertGreater(self.assert_changes_as_in_words("make", "0 1 0, 0 0 0, 3 1 1, 2 0 1"), 10)
        self.assertGreater(self.assert_changes_as_in_words("make", ", ".join(["1 0 1"] * 9)), 10)

    def test_integers(self):
        for word in NO_INTEGERS:
            for reader, text in (
                (read_cell, f"{word} 0"), (read_cell, f"0 {word}"), (read_box, f"0 0 1 {word}"), (read_box, f"0 0 {word} 1"),
                (read_box, f"{word} 0 1 1"), (read_spans, f"0-{word}"), (read_spans, f"{word}-{GREAT}"),
                (read_spans, f"0-1 {word}-{GREAT}"), (read_make, f"0 0 0, {word} 0 0, 0 0 0, 0 0 0"),
                (read_make, f"0 0 0, 0 0 0, 0 0 0, 0 0 {word}"),
            ):
                self.assert_unreadable(reader, text, 1)
        self.assertEqual(read_cell(f"{GREAT} {10 ** 39}"), (GREAT, 10 ** 39))
        self.assertEqual(read_box(f"0 0 {GREAT} {GREAT}"), (0, 0, GREAT, GREAT))
        self.assertEqual(read_spans(f"0-{GREAT}"), ((0, GREAT),))
        self.assert_unreadable(read_cell, f"{GREAT + 1} 0", 1)

    def test_cells(self):
        for text in ("", " ", "0", "0 0 0", "0,0", "0, 0", "(0, 0)", "0  0", " 0 0", "0 0 ", "0-0", "0 0,", "x y"):
            self.assert_unreadable(read_cell, text, 1)

    def test_boxes(self):
        for text in ("", "0 0 1", "0 0 1 1 1", "0, 0, 1, 1", "0 0 1 1 ", "0 0  1 1", "0 0 0 1", "0 0 1 0", "1 0 1 1",
                     "2 0 1 1", "0 2 1 1", "0 0 0 0", "1 1 0 0", "0 0 1-1"):
            self.assert_unreadable(read_box, text, 1)
        self.assertEqual(read_box("0 0 1 1"), (0, 0, 1, 1))

    def test_spans(self):
        for text in ("", " ", "0", "0 1", "0-", "-0", "-", "0-0", "1-0", "0-1-2", "0--1", "0 - 1", "0-1 ", " 0-1",
                     "0-1  2-3", "0-1, 2-3", "0-1 1-2", "0-2 1-3", "2-3 0-1", "0-1 2-2", "0-1 3-2", "0-1 2", "0-5 2-3",
                     "0-1 2-3 3-4", "0-1 4-5 2-3"):
            self.assert_unreadable(read_spans, text, 1)
        self.assertEqual(read_spans("0-1 2-3"), ((0, 1), (2, 3)))

    def test_makes(self):
        turn = "0 0 0"
        for many in (1, 2, 3, 5, 6, 8, 10, 13, 20):
            self.assert_unreadable(read_make, ", ".join([turn] * many), 1)
        for wrong in ("4 0 0", "0 2 0", "0 0 2", "10 0 0", "0 0", "0 0 0 0", "", "0 0 -1", "3 1", "0 00 0"):
            for many in (4, 9):
                for at in range(many):
                    turns = [turn] * many
                    turns[at] = wrong
                    self.assert_unreadable(read_make, ", ".join(turns), 1)
        for turns in ALL_TURNS:
            self.assertEqual(read_make(", ".join([show_cell(turns)] * 4)), (turns,) * 4)
        for text in ("", turn, ",".join([turn] * 4), " ".join([turn] * 4), ", ".join([turn] * 4) + ", "):
            self.assert_unreadable(read_make, text, 1)

    def test_more_lines(self):
        make = ", ".join(["0 0 0"] * 4)
        for reader, text, wrong in ((read_cell, "1 2", "1"), (read_box, "0 0 1 1", "0 0 0 1"),
                                    (read_spans, "0-1", "1-0"), (read_make, make, "0 0 0")):
            for more in ("\n", "\n\n", "\n" + text, "\n" + wrong, "\n "):
                self.assert_unreadable(reader, text + more, 2)
                self.assert_unreadable(reader, wrong + more, 1)
            self.assert_unreadable(reader, "\n" + text, 1)
            self.assert_unreadable(reader, "\n", 1)


if __name__ == "__main__":
    unittest.main()
