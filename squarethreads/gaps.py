"""Gaps: how far apart in number two cells are, neighbors above all."""

from squarethreads.books import check_book, least
from squarethreads.errors import InvalidDepth
from squarethreads.growth import sum_at
from squarethreads.integers import is_count
from squarethreads.paths import is_near
from squarethreads.threads import check_cell, check_depth, number_in_kind, whole

# The ways to the four neighbors of a square.
WAYS = ((1, 0), (-1, 0), (0, 1), (0, -1))


def gap(book, d, one, other):
    """Return the gap of two cells: the size of the difference of their numbers."""
    check_book(book)
    check_depth(d)
    check_cell(book, d, one)
    check_cell(book, d, other)
    return abs(number_in_kind(book, 0, d, one) - number_in_kind(book, 0, d, other))


def _check_depth_with_pairs(d):
    """Raise InvalidDepth unless it is an integer from 1 on."""
    if not is_count(d) or d == 0:
        raise InvalidDepth(d)


def greatest_gap(book, d):
    """Return the greatest gap of two cells of a depth with a side in common."""
    check_book(book)
    _check_depth_with_pairs(d)
    # Fewer kinds have by far fewer pairs.
    b, kinds = least(book)
    indexes = range(len(kinds))
    inside = [_pairs_inside(parts) for parts in kinds]
    across = {
        (k, j, way): _pairs_across(b, kinds[k], kinds[j], way) for k in indexes for j in indexes for way in WAYS
    }
    gaps = [0] * len(kinds)
    # How much greater a cell's number in its own square can be than that of its neighbor in the other square.
    leads = {sides: 0 for sides in across}
    scale = 1
    for _ in range(d):
        gaps = [max([gaps[part[2]] for part in kinds[k]] + _leads_of(inside[k], leads, scale)) for k in indexes]
        leads = {sides: max(_leads_of(across[sides], leads, scale)) for sides in across}
        scale = scale * b * b
    return gaps[0]


def _leads_of(pairs, leads, scale):
    """Return for each pair of parts the greatest lead of the later one's cells, each part having so many cells."""
    return [many * scale + leads[sides] for many, sides in pairs]


def _pairs_inside(parts):
    """Return for each two neighbors among the parts (many, (kind, other kind, way to the other)).

    The other part is the later one, by so many parts: all gaps between their cells are its leads.
    """
    found = []
    for j in range(len(parts)):
        for k in range(j):
            if is_near(parts[k], parts[j]):
                way = (parts[j][0] - parts[k][0], parts[j][1] - parts[k][1])
                found.append((j - k, (parts[k][2], parts[j][2], way)))
    return found


def _pairs_across(b, parts, others, way):
    """Return for each two neighbors, a part of a square and one of the next square in a way, the same.

    The other part is that of the next square, by so many parts later in it, perhaps by less than none.
    """
    right, up = way
    found = []
    for k in range(len(parts)):
        for j in range(len(others)):
            # The places are the parts' own, so that the next square's are moved by all of a square.
            away = (others[j][0] + b * right - parts[k][0], others[j][1] + b * up - parts[k][1])
            if away == way:
                found.append((j - k, (parts[k][2], others[j][2], way)))
    return found


def widest(book, d):
    """Return the first pair (one, other) of cells with a side in common that has the greatest gap."""
    check_book(book)
    _check_depth_with_pairs(d)
    cells = whole(book, d)
    numbers = {cells[number]: number for number in range(len(cells))}
    pairs = [((x, y), other) for x, y in cells for other in ((x, y + 1), (x + 1, y)) if other in numbers]
    greatest = max([abs(numbers[other] - numbers[one]) for one, other in pairs])
    return min([(one, other) for one, other in pairs if abs(numbers[other] - numbers[one]) == greatest])


def gap_sum(book, d):
    """Return the sum of the gaps of all pairs of cells with a side in common, each pair once."""
    return sum_at(book, d)
