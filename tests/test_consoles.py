"""consoles.py: named books, kept, dropped, asked and taken back."""

import random
import unittest

from samples import ALL_POSTURES, BENDS, PEANO, RING_OF_BENDS, ROWS, large_books, random_book, small_books, wrong_books
from squarethreads import alikes, books, gaps, growth, paths, spans, threads
from squarethreads.consoles import Console
from squarethreads.errors import (
    InvalidBook, InvalidBox, InvalidCell, InvalidDepth, InvalidName, InvalidNumber, InvalidPair, InvalidPosture,
    NothingToUndo, ThreadError, UnknownName, Unorderly, Unreadable,
)
from squarethreads.texts import show_book

# Each order once, with names that are known, but for the lines of a book.
ORDERS = (
    "turned new rows 1 0", "backward new rows", "least new rows", "drop rows", "undo", "show rows", "number rows 3 5 2",
    "cell rows 60 3", "path rows", "ring rows", "spans rows 2 0 0 3 2", "many rows 2 1 1 3 3", "next rows 2 4 1 1 3 3",
    "gap rows 2", "sum rows 1", "rule rows", "same rows bends", "names",
)
NO_NAMES = ("", " ", "A", "Rows", "rOws", "rows1", "1", "ro ws", "rows ", " rows", "abcdefghi", "a" * 9, "a" * 100, "ro-ws",
            "a_b", "a.b", "a\n", "\n", "a\nb", "\u00e9", "\u00df", "\u00aa", "rows\t", "~", "0", "none!")
NO_TEXTS = (None, True, False, 0, 1, b"rows", (), ("rows",), [], ["rows"], {}, {"rows"}, 1.0, ROWS)
NO_INTEGERS = ("", "-1", "+1", "00", "01", "007", "1.0", "x", "rows", "1,", "1_0", "9" * 41, "0" * 41, "None", "-0", "1-2",
               "\u00b2", "\u0663")


def a_console():
    """A console with four books."""
    console = Console()
    for name, book in (("rows", ROWS), ("bends", BENDS), ("peano", PEANO), ("ring", RING_OF_BENDS)):
        console.keep(name, book)
    return console


def held(console):
    """All books of a console by their names."""
    return {name: console.book(name) for name in console.names()}


class Consoles(unittest.TestCase):
    def assert_raises(self, error, value, function, *values):
        with self.assertRaises(ThreadError, msg=repr(values)) as caught:
            function(*values)
        self.assertIs(type(caught.exception), error, repr(values))
        self.assertEqual(caught.exception.value, value)
        self.assertIs(type(caught.exception.value), type(value))

    def assert_order_raises(self, console, error, value, text):
        """The order raises the error, and changes no book and no name."""
        before = held(console)
        self.assert_raises(error, value, console.order, text)
        self.assertEqual(held(console), before)
        with self.assertRaises(error):
            console.order(text=text)
        self.assertEqual(held(console), before)


class Methods(Consoles):
    def test_none_at_first(self):
        console = Console()
        self.assertEqual(console.names(), [])
        self.assertEqual(console.order("names"), "none")
        self.assert_raises(NothingToUndo, 0, console.undo)
        self.assert_raises(UnknownName, "rows", console.book, "rows")

    def test_keep_and_book(self):
        console = Console()
        self.assertIs(console.keep("rows", ROWS), None)
        self.assertIs(console.keep(name="bends", book=BENDS), None)
        self.assertEqual([console.book("rows"), console.book(name="bends")], [ROWS, BENDS])
        self.assertEqual(console.names(), ["bends", "rows"])
        # A new book takes the place of the elder one.
        self.assertIs(console.keep("rows", PEANO), None)
        self.assertEqual([console.book("rows"), console.names()], [PEANO, ["bends", "rows"]])

    def test_drop(self):
        console = a_console()
        self.assertIs(console.drop("rows"), None)
        self.assertEqual(console.names(), ["bends", "peano", "ring"])
        self.assert_raises(UnknownName, "rows", console.book, "rows")
        self.assert_raises(UnknownName, "rows", console.drop, "rows")
        self.assertIs(console.drop(name="ring"), None)
        self.assertEqual(console.names(), ["bends", "peano"])
        console.keep("rows", BENDS)
        self.assertEqual(console.book("rows"), BENDS)

    def test_names(self):
        console = Console()
        for name in ("z", "b", "ab", "abcdefgh", "a", "zz", "zzzzzzzz", "aa", "names", "none", "undo"):
            console.keep(name, ROWS)
        self.assertEqual(console.names(), ["a", "aa", "ab", "abcdefgh", "b", "names", "none", "undo", "z", "zz", "zzzzzzzz"])
        self.assertEqual(console.order("names"), "a\naa\nab\nabcdefgh\nb\nnames\nnone\nundo\nz\nzz\nzzzzzzzz")
        told = console.names()
        self.assertIs(type(told), list)
        told.clear()
        self.assertEqual(len(console.names()), 11)
        self.assertIsNot(console.names(), console.names())

    def test_invalid_names(self):
        console = a_console()
        for name in NO_NAMES + NO_TEXTS:
            for book in (ROWS, None):
                with self.assertRaises(InvalidName) as caught:
                    console.keep(name, book)
                self.assertIs(caught.exception.value, name)
            for function in (console.book, console.drop):
                with self.assertRaises(UnknownName) as caught:
                    function(name)
                self.assertIs(caught.exception.value, name)
        self.assertEqual(held(console), held(a_console()))
        for name in ("a", "z", "abcdefgh", "ijklmnop", "qrstuvwx", "yz"):
            self.assert_raises(UnknownName, name, console.book, name)
            console.keep(name, ROWS)
            self.assertEqual(console.book(name), ROWS)

    def test_invalid_books(self):
        console = a_console()
        for wrong in wrong_books():
            for name in ("rows", "new"):
                with self.assertRaises(InvalidBook) as caught:
                    console.keep(name, wrong)
                self.assertIs(caught.exception.value, wrong)
        self.assertEqual(held(console), held(a_console()))
        console.undo()
        self.assertEqual(console.names(), ["bends", "peano", "rows"])


class Undo(Consoles):
    def test_behind_keep(self):
        console = Console()
        console.keep("a", ROWS)
        self.assertIs(console.undo(), None)
        self.assertEqual(console.names(), [])
        self.assert_raises(NothingToUndo, 0, console.undo)

    def test_behind_keep_in_the_place_of_an_elder_book(self):
        console = Console()
        for book in (ROWS, BENDS, PEANO, PEANO):
            console.keep("a", book)
        for book in (PEANO, BENDS, ROWS):
            console.undo()
            self.assertEqual(console.book("a"), book)
        console.undo()
        self.assertEqual(console.names(), [])
        self.assert_raises(NothingToUndo, 0, console.undo)

    def test_behind_drop(self):
        console = Console()
        console.keep("a", ROWS)
        console.keep("a", BENDS)
        console.drop("a")
        console.undo()
        self.assertEqual(console.book("a"), BENDS)
        console.undo()
        self.assertEqual(console.book("a"), ROWS)
        console.drop("a")
        console.keep("a", PEANO)
        console.undo()
        self.assertEqual(console.names(), [])
        console.undo()
        self.assertEqual(console.book("a"), ROWS)

    def test_behind_orders(self):
        console = Console()
        console.order("book a\n" + show_book(ROWS))
        console.order("turned b a 1 1")
        console.order("backward b a")
        console.order("least a b")
        console.order("drop b")
        self.assertEqual(held(console), {"a": books.backward(ROWS)})
        console.undo()
        self.assertEqual(held(console), {"a": books.backward(ROWS), "b": books.backward(ROWS)})
        self.assertEqual(console.order("undo"), "done")
        self.assertEqual(held(console), {"a": ROWS, "b": books.backward(ROWS)})
        console.undo()
        self.assertEqual(held(console), {"a": ROWS, "b": books.turned(ROWS, (1, 1))})
        self.assertEqual(console.order("undo"), "done")
        self.assertEqual(held(console), {"a": ROWS})
        self.assertEqual(console.order("undo"), "done")
        self.assertEqual(held(console), {})
        self.assert_order_raises(console, NothingToUndo, 0, "undo")
        self.assert_raises(NothingToUndo, 0, console.undo)

    def test_orders_that_only_ask_are_not_taken_back(self):
        console = a_console()
        console.keep("last", ROWS)
        for text in ORDERS[5:]:
            console.order(text)
        console.names()
        console.book("rows")
        console.undo()
        self.assertEqual(held(console), held(a_console()))

    def test_behind_refused_calls(self):
        console = a_console()
        console.keep("last", ROWS)
        refused = (
            (console.keep, ("Rows", ROWS)), (console.keep, ("rows", None)), (console.drop, ("unknown",)),
            (console.book, ("unknown",)), (console.order, ("drop unknown",)), (console.order, ("book rows\nbook 2",)),
            (console.order, ("turned rows rows 4 0",)), (console.order, ("nothing",)), (console.order, ("gap rows 0",)),
            (console.order, ("book rows",)), (console.order, ("least rows unknown",)), (console.order, ("undo 1",)),
        )
        for function, values in refused:
            self.assertRaises(ThreadError, function, *values)
        console.undo()
        self.assertEqual(held(console), held(a_console()))

    def test_keep_behind_undo(self):
        console = Console()
        console.keep("a", ROWS)
        console.keep("a", BENDS)
        console.undo()
        console.keep("b", PEANO)
        self.assertEqual(held(console), {"a": ROWS, "b": PEANO})
        # What is taken back already is not taken back again.
        console.undo()
        self.assertEqual(held(console), {"a": ROWS})
        console.undo()
        self.assertEqual(held(console), {})
        self.assert_raises(NothingToUndo, 0, console.undo)
        console.keep("a", BENDS)
        console.undo()
        self.assertEqual(held(console), {})

    def test_six_hundred_changes(self):
        console = Console()
        for k in range(600):
            console.keep(chr(97 + k % 26) + chr(97 + k // 26), (2, (ROWS[1] * (1 + k % 3))))
        for k in range(600):
            self.assertEqual(len(console.names()), 600 - k)
            console.undo()
        self.assert_raises(NothingToUndo, 0, console.undo)

    def test_by_chance(self):
        told = [book for book in small_books() if len(book[1]) < 4][:9]
        for seed in range(30):
            chance = random.Random(f"console {seed}")
            console, history = Console(), [{}]
            for _ in range(120):
                history = self.change(chance, console, history, told)
                self.assertEqual(held(console), history[-1])
                self.assertEqual(console.names(), sorted(history[-1]))

    def change(self, chance, console, history, told):
        """One call by chance; returns what the console had behind each change that is not taken back."""
        now = dict(history[-1])
        name, other = chance.choice("abcd"), chance.choice("abcd")
        word = chance.choice(("keep", "drop", "undo", "book", "turned", "backward", "least", "wrong"))
        by_order = chance.random() < 0.5
        if word == "undo":
            if len(history) == 1:
                self.assert_raises(NothingToUndo, 0, *((console.order, "undo") if by_order else (console.undo,)))
                return history
            self.assertEqual(console.order("undo") if by_order else console.undo(), "done" if by_order else None)
            return history[:-1]
        if word == "drop":
            if name not in now:
                self.assert_raises(UnknownName, name, *((console.order, f"drop {name}") if by_order else (
                    console.drop, name)))
                return history
            self.assertEqual(console.order(f"drop {name}") if by_order else console.drop(name), "done" if by_order else None)
            del now[name]
            return history + [now]
        if word in ("keep", "book"):
            now[name] = chance.choice(told)
            if word == "keep":
                console.keep(name, now[name])
            else:
                self.assertEqual(console.order(f"book {name}\n{show_book(now[name])}"), "done")
            return history + [now]
        if word == "wrong":
            text = chance.choice(("book a", "book a\nbook", "turned a b", "names a", "undo ", "drop A", "least a abcdefghi"))
            self.assertRaises(ThreadError, console.order, text)
            return history
        posture = chance.choice(ALL_POSTURES)
        text = f"turned {name} {other} {posture[0]} {posture[1]}" if word == "turned" else f"{word} {name} {other}"
        if other not in now:
            self.assert_raises(UnknownName, other, console.order, text)
            return history
        self.assertEqual(console.order(text), "done")
        now[name] = {"turned": lambda book: books.turned(book, posture), "backward": books.backward,
                     "least": books.least}[word](now[other])
        return history + [now]

    def test_two_consoles(self):
        one, other = Console(), Console()
        one.keep("a", ROWS)
        self.assertEqual(other.names(), [])
        self.assert_raises(NothingToUndo, 0, other.undo)
        self.assert_raises(UnknownName, "a", other.book, "a")
        other.order("book b\n" + show_book(BENDS))
        self.assertEqual([held(one), held(other)], [{"a": ROWS}, {"b": BENDS}])
        self.assert_order_raises(one, UnknownName, "b", "show b")
        one.undo()
        self.assertEqual([held(one), held(other)], [{}, {"b": BENDS}])
        self.assert_raises(NothingToUndo, 0, one.undo)
        self.assertEqual(Console().names(), [])


class Answers(Consoles):
    def test_each_by_hand(self):
        console = a_console()
        answers = {
            "number rows 3 5 2": "25", "cell rows 60 3": "1 1", "path rows": "1 1", "path bends": "yes",
            "ring rows": "no", "ring bends": "no", "ring ring": "yes", "spans rows 2 0 0 3 2": "0-5 6-7",
            "spans rows 2 0 0 4 4": "0-16", "many rows 2 1 1 3 3": "4", "next rows 2 4 1 1 3 3": "6",
            "next rows 2 13 1 1 3 3": "none", "gap rows 1": "2", "gap rows 2": "6", "sum rows 0": "0", "sum rows 1": "6",
            "rule rows": "0 6 : 10 -16", "same rows bends": "1 1", "same rows rows": "yes", "next rows 0 0 0 0 1 1": "0",
            "names": "bends\npeano\nring\nrows", "show rows": "book 2\n0 0 0, 1 0 0, 0 1 0, 1 1 0",
            "cell rows 0 0": "0 0", "number rows 0 0 0": "0",
        }
        for text, answer in answers.items():
            self.assertEqual(console.order(text), answer, text)
            self.assertEqual(console.order(text=text), answer)
            self.assertIs(type(console.order(text)), str)
        self.assertEqual(held(console), held(a_console()))

    def test_those_that_keep(self):
        console = a_console()
        self.assertEqual(console.order("turned new rows 1 0"), "done")
        self.assertEqual(console.book("new"), (2, (((1, 0, 0), (1, 1, 0), (0, 0, 0), (0, 1, 0)),)))
        self.assertEqual(console.order("backward new rows"), "done")
        self.assertEqual(console.book("new"), (2, (((1, 1, 0), (0, 1, 0), (1, 0, 0), (0, 0, 0)),)))
        self.assertEqual(console.order("book twice\nbook 2" + 2 * "\n0 0 1, 1 0 0, 0 1 1, 1 1 0"), "done")
        self.assertEqual(console.order("least new twice"), "done")
        self.assertEqual(console.book("new"), ROWS)
        self.assertEqual(console.order("book rows\n" + show_book(PEANO)), "done")
        self.assertEqual(console.book("rows"), PEANO)
        self.assertEqual(console.order("drop rows"), "done")
        self.assertEqual(console.names(), ["bends", "new", "peano", "ring", "twice"])
        # A book in its own place.
        self.assertEqual(console.order("turned peano peano 1 1"), "done")
        self.assertEqual(console.book("peano"), books.turned(PEANO, (1, 1)))

    def test_books_as_texts(self):
        console = Console()
        for book in small_books() + large_books():
            self.assertEqual(console.order("book a\n" + show_book(book)), "done")
            self.assertEqual(console.book("a"), book)
            self.assertEqual(console.order("show a"), show_book(book))
            self.assertEqual(console.order("book b\n" + console.order("show a")), "done")
            self.assertEqual(console.order("same a b"), "yes")

    def test_against_the_functions(self):
        console = Console()
        for book in small_books() + large_books():
            console.keep("a", book)
            # Integers of an order have forty digits at most.
            d = 60 if book[0] == 2 else 41
            size = book[0] ** d
            cell = threads.cell_of(book, d, size * size // 3)
            self.assertEqual(console.order(f"cell a {d} {size * size // 3}"), f"{cell[0]} {cell[1]}")
            self.assertEqual(console.order(f"number a {d} {cell[0]} {cell[1]}"), str(size * size // 3))
            leap = paths.first_leap(book)
            self.assertEqual(console.order("path a"), "yes" if leap is None else f"{leap[0]} {leap[1]}")
            self.assertEqual(console.order("ring a"), "yes" if paths.is_ring(book) else "no")
            box = (size // 3, 5, size - 1, size // 2)
            told = " ".join(map(str, box))
            self.assertEqual(console.order(f"many a {d} {told}"), str(spans.how_many(book, d, box)))
            for number in (0, size, size * size - 1):
                found = spans.next_in(book, d, box, number)
                self.assertEqual(console.order(f"next a {d} {number} {told}"), "none" if found is None else str(found))
            side = book[0] ** 3
            found = spans.spans(book, 3, (0, 1, side, side - 1))
            self.assertEqual(console.order(f"spans a 3 0 1 {side} {side - 1}"),
                             " ".join(f"{first}-{behind}" for first, behind in found))
            for d in (1, 60):
                self.assertEqual(console.order(f"gap a {d}"), str(gaps.greatest_gap(book, d)))
                self.assertEqual(console.order(f"sum a {d}"), str(gaps.gap_sum(book, d)))
            if len(book[1]) < 5:
                firsts, rule = growth.rule(book)
                self.assertEqual(console.order("rule a"), " ".join(map(str, firsts)) + " : " + " ".join(map(str, rule)))

    def test_more_than_a_hundred_spans(self):
        console = Console()
        console.keep("a", random_book(1, 3, 20))
        found = spans.spans(console.book("a"), 5, (1, 1, 242, 242))
        self.assertGreater(len(found), 100)
        self.assertEqual(console.order("spans a 5 1 1 242 242").split(" "), [f"{one}-{other}" for one, other in found])

    def test_forty_digits(self):
        console = a_console()
        size = 3 ** 60
        # An answer may have more digits than an order.
        number = threads.number_of(PEANO, 60, (size - 1, size - 1))
        self.assertEqual(len(str(number)), 58)
        self.assertEqual(console.order(f"number peano 60 {size - 1} {size - 1}"), str(number))
        self.assert_order_raises(console, Unorderly, f"cell peano 60 {number}", f"cell peano 60 {number}")
        self.assert_order_raises(console, InvalidNumber, 10 ** 40 - 1, f"cell rows 60 {10 ** 40 - 1}")
        self.assert_order_raises(console, Unorderly, f"cell rows 60 {10 ** 40}", f"cell rows 60 {10 ** 40}")

    def test_same_at_a_late_depth(self):
        console = Console()
        kinds = "".join(f"\n0 0 {k}, 1 0 {k}, 0 1 {k}, 1 1 {k}" for k in range(1, 20))
        console.order("book a\nbook 2" + kinds + "\n0 0 19, 1 0 19, 0 1 19, 1 1 19")
        console.order("book b\nbook 2" + kinds + "\n0 0 19, 1 0 19, 1 1 19, 0 1 19")
        self.assertEqual(console.order("same a b"), "20 2")
        self.assertEqual(alikes.unlike(console.book("a"), console.book("b")), (20, 2))


class Unorderlies(Consoles):
    def test_words_lacking_or_twice(self):
        console = a_console()
        for text in ORDERS + ("book new\n" + show_book(ROWS),):
            line, *more = text.split("\n")
            words = line.split(" ")
            for at in range(len(words)):
                for changed in (words[:at] + words[at + 1:], words[:at + 1] + words[at:], words[:at] + [""] + words[at:],
                                words[:at] + [words[at] + ","] + words[at + 1:], words[:at]):
                    wrong = "\n".join([" ".join(changed)] + more)
                    self.assert_order_raises(console, Unorderly, wrong, wrong)
            for changed in (" " + line, line + " ", line.upper(), line.capitalize(), line.replace(" ", "  ", 1) + "  ",
                            line + " 0", line + " rows", line.replace(" ", "\t") + "\t", line + ".", "please " + line):
                wrong = "\n".join([changed] + more)
                self.assert_order_raises(console, Unorderly, wrong, wrong)

    def test_words_that_are_none(self):
        console = a_console()
        for text in ORDERS + ("book new\n" + show_book(ROWS),):
            line, *more = text.split("\n")
            words = line.split(" ")
            for at in range(len(words)):
                if at == 0:
                    wrongs = ("", "keep", "books", "boo", "nothing", "UNDO", "rows", "1", words[0] + "s", words[0][:-1])
                elif words[at].isdigit():
                    wrongs = NO_INTEGERS
                else:
                    wrongs = ("", "A", "Rows", "rows1", "1", "abcdefghi", "ro-ws", "rows,", "rows.", "0", "-")
                for word in wrongs:
                    wrong = "\n".join([" ".join(words[:at] + [word] + words[at + 1:])] + more)
                    self.assert_order_raises(console, Unorderly, wrong, wrong)

    def test_lines(self):
        console = a_console()
        for text in ORDERS:
            for more in ("\n", "\n\n", "\n" + text, "\n" + show_book(ROWS), "\nnames"):
                self.assert_order_raises(console, Unorderly, text + more, text + more)
            self.assert_order_raises(console, Unorderly, "\n" + text, "\n" + text)
        for text in ("book new", "book rows", "", "\n", " ", "book", "book \n" + show_book(ROWS),
                     "book\n" + show_book(ROWS), "book New\n" + show_book(ROWS), "book abcdefghi\n" + show_book(ROWS),
                     "book 2\n0 0 0, 1 0 0, 0 1 0, 1 1 0", show_book(BENDS), "book new 2\n" + show_book(ROWS),
                     "book new \n" + show_book(ROWS), "Book new\n" + show_book(ROWS), "book new\r\n" + show_book(ROWS)):
            self.assert_order_raises(console, Unorderly, text, text)

    def test_unorderly_comes_before_all_others(self):
        console = a_console()
        for text in ("show unknown rows", "number unknown 2 0 x", "book new x\nbook", "gap unknown", "gap rows -1",
                     "show rows\nbook", "turned a unknown 9", "undo 0", "next unknown 2 4 1 1 3", "same unknown"):
            self.assert_order_raises(console, Unorderly, text, text)

    def test_names_of_one_eight_and_nine_letters(self):
        console = Console()
        for name in ("a", "z", "abcdefgh", "zzzzzzzz", "undo", "names", "book", "none", "done"):
            self.assertEqual(console.order(f"book {name}\n{show_book(ROWS)}"), "done")
            self.assertEqual(console.order(f"show {name}"), show_book(ROWS))
            self.assertEqual(console.order(f"same {name} {name}"), "yes")
        for name in ("abcdefghi", "zzzzzzzzz", "a" * 40):
            for text in (f"show {name}", f"same {name} a", f"same a {name}", f"least {name} a", f"least a {name}",
                         f"drop {name}", f"book {name}\n{show_book(ROWS)}"):
                self.assert_order_raises(console, Unorderly, text, text)


class Refusals(Consoles):
    def test_unknown_names_from_the_left(self):
        console = a_console()
        for text in ORDERS:
            if "rows" in text:
                self.assert_order_raises(console, UnknownName, "nobody", text.replace("rows", "nobody"))
        self.assert_order_raises(console, UnknownName, "one", "same one other")
        self.assert_order_raises(console, UnknownName, "other", "same rows other")
        self.assert_order_raises(console, UnknownName, "one", "same one rows")
        self.assert_order_raises(console, UnknownName, "other", "turned one other 1 0")
        self.assert_order_raises(console, UnknownName, "new", "backward new new")
        # Before what the functions refuse.
        for text in ("turned new nobody 4 2", "number nobody 2 99 99", "gap nobody 0", "spans nobody 2 9 9 9 9",
                     "next nobody 2 99 9 9 9 9", "cell nobody 1 99"):
            self.assert_order_raises(console, UnknownName, "nobody", text)
        console.drop("rows")
        self.assert_order_raises(console, UnknownName, "rows", "same rows bends")
        self.assert_order_raises(console, UnknownName, "rows", "same bends rows")
        self.assert_order_raises(console, UnknownName, "rows", "drop rows")

    def test_unreadable_books(self):
        console = a_console()
        rows = show_book(ROWS)
        for name in ("rows", "new"):
            for number, more in (
                (1, ""), (1, "\n"), (1, "book"), (1, "book 2 \n"), (1, "book -2\n" + rows[7:]), (1, "book 02" + rows[6:]),
                (1, "book rows\n" + rows), (1, " " + rows), (1, "\n" + rows), (2, "book 2\n"), (2, "book 2\n0 0"),
                (2, rows + " "), (2, rows + ","), (3, rows + "\n"), (3, rows + "\n0 0 0,1 0 0"), (3, rows + "\nnames"),
                (2, "book 2\n\n" + rows), (0, "book 2"), (0, "book 5" + rows[6:]), (0, "book 3" + rows[6:]),
                (0, "book 2\n0 0 0"), (0, rows + "\n0 0 0"), (4, rows + rows[6:] + "\nx"),
            ):
                self.assert_order_raises(console, Unreadable, number, f"book {name}\n{more}")

    def test_refusals_of_the_functions(self):
        console = a_console()
        for text, error, value in (
            ("turned new rows 4 0", InvalidPosture, (4, 0)), ("turned new rows 0 2", InvalidPosture, (0, 2)),
            ("turned rows rows 9 9", InvalidPosture, (9, 9)), ("number rows 2 4 0", InvalidCell, (4, 0)),
            ("number rows 0 0 1", InvalidCell, (0, 1)), ("number peano 1 3 3", InvalidCell, (3, 3)),
            ("cell rows 2 16", InvalidNumber, 16), ("cell rows 0 1", InvalidNumber, 1),
            ("spans rows 2 0 0 5 1", InvalidBox, (0, 0, 5, 1)), ("spans rows 2 1 0 1 1", InvalidBox, (1, 0, 1, 1)),
            ("many rows 2 0 0 0 0", InvalidBox, (0, 0, 0, 0)), ("many rows 60 2 0 1 1", InvalidBox, (2, 0, 1, 1)),
            ("next rows 2 0 0 0 5 5", InvalidBox, (0, 0, 5, 5)), ("next rows 2 16 0 0 4 4", InvalidNumber, 16),
            ("next rows 2 16 0 0 5 5", InvalidBox, (0, 0, 5, 5)), ("gap rows 0", InvalidDepth, 0),
            ("same rows peano", InvalidPair, (2, 3)), ("same peano rows", InvalidPair, (3, 2)),
        ):
            self.assert_order_raises(console, error, value, text)

    def test_nothing_to_undo(self):
        console = Console()
        for _ in range(3):
            self.assert_order_raises(console, NothingToUndo, 0, "undo")
            self.assert_raises(NothingToUndo, 0, console.undo)
        console.keep("a", ROWS)
        console.undo()
        self.assert_order_raises(console, NothingToUndo, 0, "undo")


if __name__ == "__main__":
    unittest.main()
