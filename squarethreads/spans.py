"""Boxes of cells, and the spans of numbers that they are."""

from squarethreads.books import backward, check_book
from squarethreads.errors import InvalidBox
from squarethreads.integers import is_count, power
from squarethreads.threads import check_depth, check_from_one, check_number, how_many_cells


def is_box(told):
    """Tell whether something, whatever it is, is a box of cells with x and y from 0 on."""
    if not isinstance(told, tuple) or len(told) != 4:
        return False
    if not all([is_count(side) for side in told]):
        return False
    left, low, right, high = told
    return left < right and low < high


def check_box(book, d, box):
    """Raise InvalidBox unless it is a box within the depth."""
    if not is_box(box) or max(box) > power(book[0], d):
        raise InvalidBox(box)


def spans(book, d, box):
    """Return the spans of a box: the tuple of the fewest that have just the numbers of its cells."""
    check_book(book)
    check_depth(d)
    check_box(book, d, box)
    found = []
    waiting = [_whole_square(book, d)]
    while len(waiting) > 0:
        square = waiting.pop()
        first, behind = _numbers_of(square)
        if _is_apart(square, box):
            continue
        if not _is_within(square, box):
            waiting.extend(_squares_in(book, square)[::-1])
        elif len(found) > 0 and found[-1][1] == first:
            found[-1] = (found[-1][0], behind)
        else:
            found.append((first, behind))
    return tuple(found)


def _whole_square(book, d):
    """Return the square of all cells of a depth.

    A square is (kind, x, y, size, first): of the kind, with so many cells each way from the cell (x, y) on,
    that are numbered from first on.
    """
    return (0, 0, 0, power(book[0], d), 0)


def _squares_in(book, square):
    """Return the list of the squares of the parts of a square, in their sequence."""
    b, kinds = book
    kind, x, y, size, first = square
    size = size // b
    found = []
    for right, up, below in kinds[kind]:
        found.append((below, x + right * size, y + up * size, size, first))
        first += size * size
    return found


def _numbers_of(square):
    """Return the span of the numbers of a square's cells."""
    _, _, _, size, first = square
    return (first, first + size * size)


def _is_apart(square, box):
    """Tell whether a square has no cell of a box."""
    _, x, y, size, _ = square
    left, low, right, high = box
    return x + size <= left or y + size <= low or right <= x or high <= y


def _is_within(square, box):
    """Tell whether all cells of a square are a box's."""
    _, x, y, size, _ = square
    left, low, right, high = box
    return left <= x and low <= y and x + size <= right and y + size <= high


def how_many(book, d, box):
    """Return how many spans a box has, without listing them."""
    check_book(book)
    check_depth(d)
    check_box(book, d, box)
    b, kinds = book
    counts = {}
    size = 1
    for shares_of_boxes in _shares_by_depth(b, d, box)[::-1]:
        # The dict's own comprehension still reads the counts of the depth before.
        counts = {
            (kind, told): _count_through(kinds[kind], shares, size, counts)
            for told, shares in shares_of_boxes.items() for kind in range(len(kinds))
        }
        size = size * b
    return _count_in(0, box, size, counts)[0]


def _shares_by_depth(b, d, box):
    """Return for each depth from d down to 1 a dict of the boxes that cut squares of it, each with its shares.

    Squares that a box's same side cuts are cut alike: of the squares of one depth there are a few boxes only.
    """
    size = power(b, d)
    boxes = [box]
    rows = []
    for _ in range(d):
        size = size // b
        shares_of_boxes = {told: _shares_of(b, told, size) for told in boxes}
        rows.append(shares_of_boxes)
        boxes = _cutting_shares(shares_of_boxes, size)
    return rows


def _shares_of(b, box, size):
    """Return for each place the box that a box has in the square there, moved with it to (0, 0), or None."""
    shares = {}
    for x in range(b):
        for y in range(b):
            left = max(box[0] - x * size, 0)
            low = max(box[1] - y * size, 0)
            right = min(box[2] - x * size, size)
            high = min(box[3] - y * size, size)
            share = (left, low, right, high)
            shares[(x, y)] = share if is_box(share) else None
    return shares


def _cutting_shares(shares_of_boxes, size):
    """Return the list of all shares, each once, that are some cells of a square but not all."""
    found = {}
    for shares in shares_of_boxes.values():
        for share in shares.values():
            if share is not None and share != (0, 0, size, size):
                found[share] = True
    return list(found)


def _count_in(kind, share, size, counts):
    """Return (spans, begins, ends) of a share of a square: how many, and 1 if the first, the last cell is its."""
    if share is None:
        return (0, 0, 0)
    if share == (0, 0, size, size):
        return (1, 1, 1)
    return counts[(kind, share)]


def _count_through(parts, shares, size, counts):
    """Return (spans, begins, ends) of all parts together; size is that of a part's square."""
    rows = [_count_in(kind, shares[(x, y)], size, counts) for x, y, kind in parts]
    many = sum([row[0] for row in rows])
    for k in range(len(rows) - 1):
        # A span up to a part's end and one from the next part's beginning on are one.
        many -= rows[k][2] * rows[k + 1][1]
    return (many, rows[0][1], rows[-1][2])


def cells_in(book, d, box):
    """Return how many cells a box has."""
    check_book(book)
    check_depth(d)
    check_box(book, d, box)
    left, low, right, high = box
    return (right - left) * (high - low)


def next_in(book, d, box, number):
    """Return the least number, from this one on, of a cell of a box, or None."""
    check_book(book)
    check_depth(d)
    check_box(book, d, box)
    check_number(book, d, number)
    waiting = [_whole_square(book, d)]
    while len(waiting) > 0:
        square = waiting.pop()
        first, behind = _numbers_of(square)
        if behind <= number or _is_apart(square, box):
            continue
        if behind == first + 1:
            return first
        waiting.extend(_squares_in(book, square)[::-1])
    return None


def last_in(book, d, box, number):
    """Return the greatest number, up to this one, of a cell of a box, or None."""
    check_book(book)
    check_depth(d)
    check_box(book, d, box)
    check_number(book, d, number)
    last = how_many_cells(book, d) - 1
    found = next_in(backward(book), d, box, last - number)
    if found is None:
        return None
    return last - found


def at_most(book, d, box, most):
    """Return at most so many spans with all numbers of a box's cells and as few others as can be."""
    check_book(book)
    check_depth(d)
    check_box(book, d, box)
    check_from_one(most)
    found = spans(book, d, box)
    # What is left out between two spans counts for more the longer it is; of those as long,
    # the earlier ones, as the first tuples are those that end a span the earliest.
    between = sorted([(found[k][1] - found[k + 1][0], k) for k in range(len(found) - 1)])
    kept = sorted([k for _, k in between[:most - 1]])
    firsts = [found[0][0]] + [found[k + 1][0] for k in kept]
    behinds = [found[k][1] for k in kept] + [found[-1][1]]
    return tuple(zip(firsts, behinds))
