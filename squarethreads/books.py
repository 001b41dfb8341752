"""Books of kinds of squares: what one is, and the books that come of one."""

from squarethreads.errors import InvalidBook, InvalidKind, InvalidPosture
from squarethreads.integers import is_index, is_whole


def is_book(told):
    """Tell whether something, whatever it is, is a book."""
    if not isinstance(told, tuple) or len(told) != 2:
        return False
    b, kinds = told
    if not is_whole(b) or b not in (2, 3):
        return False
    if not isinstance(kinds, tuple) or len(kinds) == 0:
        return False
    return all([_is_kind(b, len(kinds), kind) for kind in kinds])


def _is_kind(b, many, told):
    """Tell whether something is a kind of a book of so many kinds."""
    if not isinstance(told, tuple) or len(told) != b * b:
        return False
    # Only what is known to be integers may go into a set: a list in a part could not.
    if not all([_is_part(b, many, part) for part in told]):
        return False
    return len(set(places_of(told))) == b * b


def _is_part(b, many, told):
    """Tell whether something is a part of a kind of a book of so many kinds."""
    if not isinstance(told, tuple) or len(told) != 3:
        return False
    x, y, kind = told
    return is_index(x, b) and is_index(y, b) and is_index(kind, many)


def places_of(parts):
    """Return the list of the places of a kind's parts, in their sequence."""
    return [(part[0], part[1]) for part in parts]


def check_book(book):
    """Raise InvalidBook unless it is a book."""
    if not is_book(book):
        raise InvalidBook(book)


def check_kind(book, kind):
    """Raise InvalidKind unless it is the index of a kind of the book."""
    if not is_index(kind, len(book[1])):
        raise InvalidKind(kind)


def is_posture(told):
    """Tell whether something, whatever it is, is a posture."""
    if not isinstance(told, tuple) or len(told) != 2:
        return False
    way, mirror = told
    return is_index(way, 4) and is_index(mirror, 2)


def check_posture(posture):
    """Raise InvalidPosture unless it is a posture."""
    if not is_posture(posture):
        raise InvalidPosture(posture)


def is_turn(told):
    """Tell whether something, whatever it is, is (way, mirror, back): a posture, and back 0 or 1."""
    if not isinstance(told, tuple) or len(told) != 3:
        return False
    return is_posture(told[:2]) and is_index(told[2], 2)


def begun_at(book, kind):
    """Return the book with a kind first and all that it leads to, numbered breadth first."""
    check_book(book)
    check_kind(book, kind)
    b, kinds = book
    return (b, _numbered_from(kinds, kind))


def _numbered_from(kinds, first):
    """Return the kinds that one leads to, itself first, numbered as they are met."""
    met = [first]
    indexes = {first: 0}
    at = 0
    while at < len(met):
        parts = kinds[met[at]]
        for part in parts:
            if part[2] not in indexes:
                indexes[part[2]] = len(met)
                met.append(part[2])
        at += 1
    return tuple([_renamed(kinds[kind], indexes) for kind in met])


def _renamed(parts, names):
    """Return the parts, each with the name of its kind in the place of its kind."""
    return tuple([(x, y, names[kind]) for x, y, kind in parts])


def least(book):
    """Return the book begun at kind 0 in which kinds with the same threads are one."""
    check_book(book)
    b, kinds = book
    classes = classes_by_depth(kinds)[-1]
    firsts = [classes.index(number) for number in classes]
    merged = tuple([_renamed(parts, firsts) for parts in kinds])
    return (b, _numbered_from(merged, 0))


def classes_by_depth(kinds):
    """Return for each depth, from 0 to that from which on nothing changes, the number of each kind's class.

    A class is of all kinds with the same thread at the depth; they are numbered as they are met.
    """
    rows = [[0] * len(kinds)]
    finer = _split(kinds, rows[0])
    # Classes that are the same down to one more depth only ever split further,
    # so once their number stays the same they stay the same at all depths.
    while max(finer) > max(rows[-1]):
        rows.append(finer)
        finer = _split(kinds, finer)
    return rows


def _split(kinds, classes):
    """Return the classes of the kinds whose places and whose parts' classes are the same."""
    numbers = {}
    finer = []
    for parts in kinds:
        marks = _renamed(parts, classes)
        finer.append(numbers.setdefault(marks, len(numbers)))
    return finer


def turned(book, posture):
    """Return the book of the threads in a posture, all kinds at their indexes."""
    check_book(book)
    check_posture(posture)
    b, kinds = book
    return (b, tuple([_turned_parts(b, posture, parts) for parts in kinds]))


def _turned_parts(b, posture, parts):
    """Return the parts of a kind, each at its place in the posture."""
    moved = []
    for x, y, kind in parts:
        right, up = in_posture(b, posture, (x, y))
        moved.append((right, up, kind))
    return tuple(moved)


def in_posture(size, posture, cell):
    """Return where a cell of a square of so many cells each way is in a posture."""
    x, y = cell
    way, mirror = posture
    for _ in range(way):
        x, y = size - 1 - y, x
    if mirror == 1:
        return (y, x)
    return (x, y)


def backward(book):
    """Return the book of the threads gone from the last cell to the first, all kinds at their indexes."""
    check_book(book)
    b, kinds = book
    return (b, tuple([parts[::-1] for parts in kinds]))


def postures(book):
    """Return the ascending list of the postures, gone either way, that leave the thread as it is."""
    check_book(book)
    return ways_between(book, book)


def ways_between(one, other):
    """Return the ascending list of ((way, mirror), back) that make the one's thread the other's; both have one b."""
    found = []
    for way in range(4):
        for mirror in range(2):
            posture = (way, mirror)
            moved = turned(one, posture)
            if have_same_thread(moved, other):
                found.append((posture, 0))
            if have_same_thread(backward(moved), other):
                found.append((posture, 1))
    return found


def have_same_thread(one, other):
    """Tell whether the kinds 0 of two books with one b have the same thread at all depths."""
    met = {(0, 0): True}
    waiting = [(0, 0)]
    while len(waiting) > 0:
        left, right = waiting.pop()
        parts = one[1][left]
        others = other[1][right]
        if places_of(parts) != places_of(others):
            return False
        for k in range(len(parts)):
            pair = (parts[k][2], others[k][2])
            if pair not in met:
                met[pair] = True
                waiting.append(pair)
    return True
