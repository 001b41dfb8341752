"""Books, cells, boxes, spans, fields and makes as texts."""


def show_book(book):
    """Return the text of a book: its b, then a line for each kind."""
    b, kinds = book
    return "\n".join([f"book {b}"] + [_show_rows(parts) for parts in kinds])


def show_integers(integers):
    """Return the integers, separated by a space."""
    return " ".join([str(integer) for integer in integers])


def _show_rows(rows):
    """Return rows of integers, separated by a comma and a space."""
    return ", ".join([show_integers(row) for row in rows])


def show_cell(cell):
    """Return the text of a cell."""
    return show_integers(cell)


def show_box(box):
    """Return the text of a box."""
    return show_integers(box)


def show_spans(spans):
    """Return the text of spans."""
    return " ".join([f"{first}-{behind}" for first, behind in spans])


def show_field(field):
    """Return the text of a field: its squares in one line, then the lines of its book."""
    book, squares = field
    return f"field {_show_rows(squares)}\n{show_book(book)}"


def show_make(make):
    """Return the text of a make."""
    return _show_rows(make)
