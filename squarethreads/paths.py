"""Steps from cell to cell: which are leaps, whether threads are paths or rings, and where they end."""

from squarethreads.books import check_book, check_kind
from squarethreads.threads import check_depth, how_many_cells


def is_near(one, other):
    """Tell whether two cells, or two places, have a side in common."""
    return abs(one[0] - other[0]) + abs(one[1] - other[1]) == 1


def leap_depth_of_step(book, one, other):
    """Return the least depth at which the step from one part to another is a leap, or None.

    A part is (x, y, kind); the step is from the last cell of the one's thread to the first of the other's.
    """
    if not is_near(one, other):
        return 0
    b, kinds = book
    right = other[0] - one[0]
    up = other[1] - one[1]
    ending = one[2]
    beginning = other[2]
    met = {}
    d = 0
    # The two kinds decide all that comes at greater depths, so a pair met again closes a round without a leap.
    while (ending, beginning) not in met:
        met[(ending, beginning)] = True
        d += 1
        last = kinds[ending][-1]
        first = kinds[beginning][0]
        # The next depth has b cells for one each way: the two cells stay near if the new places take up the rest.
        if (b * right + first[0] - last[0], b * up + first[1] - last[1]) != (right, up):
            return d
        ending = last[2]
        beginning = first[2]
    return None


def leap_depths_of_steps(book, parts):
    """Return for each part but the last one the least depth at which the step to the next one is a leap, or None."""
    return [leap_depth_of_step(book, parts[k], parts[k + 1]) for k in range(len(parts) - 1)]


def leap_depths_of_kinds(book):
    """Return for each kind the least depth at which its thread has a leap, or None."""
    kinds = book[1]
    steps = [_one_deeper(_least_of(leap_depths_of_steps(book, parts))) for parts in kinds]
    depths = steps
    # The shortest way to a kind passes each kind once at most, so that as many rounds will do.
    for _ in kinds:
        below = [_one_deeper(_least_of(_inside(parts, depths))) for parts in kinds]
        depths = [_least_of([steps[k], below[k]]) for k in range(len(kinds))]
    return depths


def _inside(parts, depths):
    """Return for each part what its kind has in a list."""
    return [depths[part[2]] for part in parts]


def _least_of(depths):
    """Return the least of some depths, each perhaps None, or None if none is left."""
    return min([d for d in depths if d is not None], default=None)


def _one_deeper(d):
    """Return the next depth, None for None."""
    if d is None:
        return None
    return d + 1


def first_leap_through(book, parts):
    """Return None, or the least depth of the parts at which their thread has a leap, and the first one's number."""
    inside = leap_depths_of_kinds(book)
    least_depth = _least_of(leap_depths_of_steps(book, parts) + _inside(parts, inside))
    if least_depth is None:
        return None
    number = 0
    d = least_depth
    at = _first_to_leap(book, parts, d, inside)
    while inside[parts[at][2]] == d:
        number += at * how_many_cells(book, d)
        parts = book[1][parts[at][2]]
        d -= 1
        at = _first_to_leap(book, parts, d, inside)
    return (least_depth, number + (at + 1) * how_many_cells(book, d) - 1)


def _first_to_leap(book, parts, d, inside):
    """Return the first part with a leap inside or behind it at a depth, the least one with a leap at all."""
    behind = leap_depths_of_steps(book, parts)
    at = 0
    while inside[parts[at][2]] != d and behind[at] != d:
        at += 1
    return at


def is_path(book):
    """Tell whether the threads of all depths are paths."""
    check_book(book)
    return leap_depths_of_kinds(book)[0] is None


def is_path_at(book, d):
    """Tell whether the thread of a depth is a path."""
    check_book(book)
    check_depth(d)
    least_depth = leap_depths_of_kinds(book)[0]
    # A step that is a leap is one at all greater depths, too.
    return least_depth is None or d < least_depth


def first_leap(book):
    """Return None, or the least depth with a leap, and the number from which the first one leads."""
    check_book(book)
    found = first_leap_through(book, book[1][0])
    if found is None:
        return None
    return (found[0] + 1, found[1])


def is_ring(book):
    """Tell whether the threads of all depths from 1 on are rings."""
    check_book(book)
    parts = book[1][0]
    return is_path(book) and leap_depth_of_step(book, parts[-1], parts[0]) is None


def leaps(book, d):
    """Return how many steps of the thread of a depth are leaps."""
    check_book(book)
    check_depth(d)
    kinds = book[1]
    steps = [leap_depths_of_steps(book, parts) for parts in kinds]
    counts = [0] * len(kinds)
    for below in range(d):
        inside = [sum(_inside(parts, counts)) for parts in kinds]
        counts = [inside[k] + _leaps_by(steps[k], below) for k in range(len(kinds))]
    return counts[0]


def _leaps_by(steps, d):
    """Return how many of the steps are leaps at a depth, each told by the least one at which it is, or None."""
    return len([least_depth for least_depth in steps if least_depth is not None and least_depth <= d])


def ends(book, kind):
    """Return the corners at which the thread of a kind begins and ends at all depths, None for no such one."""
    check_book(book)
    check_kind(book, kind)
    return (_corner_at(book, kind, 0), _corner_at(book, kind, -1))


def _corner_at(book, kind, at):
    """Return the corner that has the first cell (at 0) or the last one (at -1) at all depths from 1 on, or None."""
    b, kinds = book
    x, y, _ = kinds[kind][at]
    if x not in (0, b - 1) or y not in (0, b - 1):
        return None
    # The way down passes each kind once before it comes round.
    for _ in kinds:
        part = kinds[kind][at]
        if (part[0], part[1]) != (x, y):
            return None
        kind = part[2]
    return (x // (b - 1), y // (b - 1))
