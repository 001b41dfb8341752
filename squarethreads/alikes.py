"""Whether two books make the same thread, in which postures they do, and which kinds of a book do."""

from squarethreads.books import check_book, classes_by_depth, ways_between
from squarethreads.errors import InvalidPair


def _check_both(one, other):
    """Raise InvalidBook unless both are books, InvalidPair unless they have one b."""
    check_book(one)
    check_book(other)
    if one[0] != other[0]:
        raise InvalidPair((one[0], other[0]))


def unlike(one, other):
    """Return None if two books make the same thread, or the least depth and the first number at which they differ."""
    _check_both(one, other)
    b, kinds = one
    many = len(kinds)
    # The other's kinds stand behind the one's: one table of classes then tells of both.
    both = kinds + tuple([tuple([(x, y, kind + many) for x, y, kind in parts]) for parts in other[1]])
    rows = classes_by_depth(both)
    for d in range(len(rows)):
        if rows[d][0] != rows[d][many]:
            return (d, _first_unlike(b * b, both, rows[:d], (0, many)))
    return None


def _first_unlike(share, kinds, rows, pair):
    """Return the first number at which two kinds differ, from their classes of all depths at which they do not."""
    left, right = pair
    number = 0
    for classes in rows[::-1]:
        at = _first_unlike_part(kinds[left], kinds[right], classes)
        number = number * share + at
        left = kinds[left][at][2]
        right = kinds[right][at][2]
    return number


def _first_unlike_part(parts, others, classes):
    """Return the index of the first part that is at another place than the other one, or of another class."""
    at = 0
    while parts[at][:2] == others[at][:2] and classes[parts[at][2]] == classes[others[at][2]]:
        at += 1
    return at


def alike_in(one, other):
    """Return the ascending list of ((way, mirror), back) in which the one's thread is the other's."""
    _check_both(one, other)
    return ways_between(one, other)


def same_kinds(book):
    """Return the ascending tuple of the tuples of kinds that have the same thread."""
    check_book(book)
    classes = classes_by_depth(book[1])[-1]
    groups = [[] for number in range(max(classes) + 1)]
    for kind in range(len(classes)):
        groups[classes[kind]].append(kind)
    return tuple([tuple(group) for group in groups])
