"""How gap sums grow from depth to depth: the sums, and the rule that they follow."""

from squarethreads.books import check_book, least
from squarethreads.paths import is_near
from squarethreads.threads import check_depth

# A side of a square is (axis, end): axis 0 for x and 1 for y, end 0 where that is least, 1 where it is greatest.
SIDES = ((0, 0), (0, 1), (1, 0), (1, 1))


def sums(book, n):
    """Return the list of the gap sums of the depths 0 to n."""
    check_book(book)
    check_depth(n)
    return _sums_up_to(book, n)


def sum_at(book, d):
    """Return the gap sum of a depth."""
    check_book(book)
    check_depth(d)
    return _sums_up_to(book, d)[d]


def rule(book):
    """Return the gap sums of as many depths as the rule is long, from 0 on, and the rule."""
    check_book(book)
    small = least(book)
    # A depth's gap sums, sums on four sides and numbers on a side all together are what the next depth's follow from:
    # so many numbers that change by one linear map follow a rule that is no longer than they are many.
    many = 5 * len(small[1]) + 1
    told = _sums_up_to(small, 2 * many - 1)
    found = _shortest_rule(told, many)
    return (tuple(told[:len(found)]), found)


def _sums_up_to(book, n):
    """Return the gap sums of kind 0 of the depths 0 to n."""
    b, kinds = book
    gap_sums = [0] * len(kinds)
    # The sums of the numbers of the cells on each side of each kind.
    side_sums = [{side: 0 for side in SIDES} for parts in kinds]
    # How many cells a side has, times how many the square has: b to the power 3 d.
    scale = 1
    found = [gap_sums[0]]
    for _ in range(n):
        gap_sums = [_gap_sum(parts, gap_sums, side_sums, scale) for parts in kinds]
        side_sums = [{side: _side_sum(b, parts, side, side_sums, scale) for side in SIDES} for parts in kinds]
        scale = scale * b * b * b
        found.append(gap_sums[0])
    return found


def _side_sum(b, parts, side, side_sums, scale):
    """Return the sum of the numbers on a side, from the sums of the parts' kinds at one depth less."""
    axis, end = side
    total = 0
    for k in range(len(parts)):
        if parts[k][axis] == end * (b - 1):
            total += k * scale + side_sums[parts[k][2]][side]
    return total


def _gap_sum(parts, gap_sums, side_sums, scale):
    """Return the gap sum of the parts, from the sums of their kinds at one depth less."""
    total = sum([gap_sums[part[2]] for part in parts])
    for k in range(len(parts)):
        for j in range(k):
            if is_near(parts[j], parts[k]):
                # All numbers of a later part are greater, so that each gap is a plain difference.
                total += (k - j) * scale + _facing_sum(parts[k], parts[j], side_sums)
                total -= _facing_sum(parts[j], parts[k], side_sums)
    return total


def _facing_sum(part, other, side_sums):
    """Return the sum of the numbers in a part's own thread on the side that another part lies at."""
    axis = 0
    if part[0] == other[0]:
        axis = 1
    end = 0
    if part[axis] < other[axis]:
        end = 1
    return side_sums[part[2]][(axis, end)]


def _shortest_rule(told, many):
    """Return the shortest rule of gap sums, known to be no longer than many; told are twice as many sums.

    The rule has length m if the row of many sums from depth m on is made up of the rows from lesser depths on:
    the rows are cleared one by one, each by those before it, until one is cleared wholly.
    """
    cleared = []
    row = _row_from(told, many, 0)
    while row[:many] != [0] * many:
        cleared.append(row)
        row = _cleared_row(_row_from(told, many, len(cleared)), cleared, many)
    m = len(cleared)
    # The first rule there is has integers alone, as the linear map has: no remainder is lost.
    return tuple([-row[many + m - k] // row[many + m] for k in range(1, m + 1)])


def _row_from(told, many, m):
    """Return the row of many sums from depth m on, and behind it how often each row is in it: itself once."""
    shares = [0] * (many + 1)
    shares[m] = 1
    return told[m:m + many] + shares


def _cleared_row(row, cleared, many):
    """Return a row of integers from which the rows before it are taken so that it has 0 at the lead of each."""
    divisor = 1
    for other in cleared:
        at = _lead_of(other, many)
        # The division has no remainder: all that comes up is a minor of the first rows (Bareiss).
        row = [(other[at] * row[k] - row[at] * other[k]) // divisor for k in range(len(row))]
        divisor = other[at]
    return row


def _lead_of(row, many):
    """Return the index of the first of the sums in a row that is not 0."""
    return [share != 0 for share in row[:many]].index(True)
