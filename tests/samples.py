"""Books and other values for the tests, and the document carried out word by word."""

import random

ROWS = (2, (((0, 0, 0), (1, 0, 0), (0, 1, 0), (1, 1, 0)),))
BENDS = (2, (
    ((0, 0, 1), (0, 1, 0), (1, 1, 0), (1, 0, 2)),
    ((0, 0, 0), (1, 0, 1), (1, 1, 1), (0, 1, 3)),
    ((1, 1, 3), (0, 1, 2), (0, 0, 2), (1, 0, 0)),
    ((1, 1, 2), (1, 0, 3), (0, 0, 3), (0, 1, 1)),
))
# The thread of Peano, with its four kinds: as it is, and with x, y or both the other way.
_SNAKE = ((0, 0), (0, 1), (0, 2), (1, 2), (1, 1), (1, 0), (2, 0), (2, 1), (2, 2))
PEANO = (3, tuple(
    tuple((2 - x if right else x, 2 - y if up else y, ((x + up) % 2) * 2 + (y + right) % 2) for x, y in _SNAKE)
    for up in range(2) for right in range(2)
))
# The thread of Moore: four bends, gone backward, that close to a ring.
RING_OF_BENDS = (2, (((0, 0, 3), (0, 1, 3), (1, 1, 2), (1, 0, 2)),) + tuple(
    tuple((x, y, kind + 1) for x, y, kind in parts[::-1]) for parts in BENDS[1]
))

ALL_POSTURES = [(way, mirror) for way in range(4) for mirror in range(2)]


def random_book(seed, b, many):
    """A book of so many kinds, the same one for the same seed."""
    chance = random.Random(f"{seed} {b} {many}")
    places = [(x, y) for x in range(b) for y in range(b)]
    kinds = []
    for _ in range(many):
        chance.shuffle(places)
        kinds.append(tuple((x, y, chance.randrange(many)) for x, y in places))
    return (b, tuple(kinds))


def one_sequence_book(seed, b, many):
    """A book whose kinds have few sequences of places, so that many kinds are close to each other."""
    chance = random.Random(f"one {seed} {b} {many}")
    places = [(x, y) for x in range(b) for y in range(b)]
    other = places[::-1]
    kinds = []
    for k in range(many):
        sequence = other if k == many - 1 else places
        kinds.append(tuple((x, y, chance.randrange(many)) for x, y in sequence))
    return (b, tuple(kinds))


def small_books():
    """Books for the comparisons at small depths."""
    books = [ROWS, BENDS, PEANO, RING_OF_BENDS]
    for b in (2, 3):
        for many in (1, 2, 3, 5):
            for seed in range(3):
                books.append(random_book(seed, b, many))
                books.append(one_sequence_book(seed, b, many))
    return books


def large_books():
    """Books of twenty kinds."""
    return [random_book(seed, b, 20) for b in (2, 3) for seed in range(2)] + [chain(2, 20), chain(3, 20)]


def chain(b, many, last=None):
    """Kinds with one sequence, each leading to the next one alone; only the last one's is another."""
    places = [(x, y) for y in range(b) for x in range(b)]
    kinds = [tuple((x, y, k + 1) for x, y in places) for k in range(many - 1)]
    kinds.append(tuple((x, y, many - 1) for x, y in last or places[::-1]))
    return (b, tuple(kinds))


def cells_in_words(book, d, kind=0):
    """Promise 4, word by word: the cells of the thread of a kind at a depth."""
    if d == 0:
        return [(0, 0)]
    b, kinds = book
    side = b ** (d - 1)
    cells = []
    for x, y, below in kinds[kind]:
        cells += [(x * side + u, y * side + v) for u, v in cells_in_words(book, d - 1, below)]
    return cells


def kinds_in_words(book, d, kind=0):
    """The tuples of kinds on the way to all numbers of a depth."""
    if d == 0:
        return [(kind,)]
    ways = []
    for _, _, below in book[1][kind]:
        ways += [(kind,) + way for way in kinds_in_words(book, d - 1, below)]
    return ways


def cell_in_words(book, d, number, kind=0):
    """Promise 4, word by word: the cell of one number, part by part from the top."""
    if d == 0:
        return (0, 0)
    b, kinds = book
    side = b ** (d - 1)
    before = 0
    for x, y, below in kinds[kind]:
        if before <= number < before + side * side:
            u, v = cell_in_words(book, d - 1, number - before, below)
            return (x * side + u, y * side + v)
        before += side * side
    raise AssertionError("no number of the depth")


def near(one, other):
    """Whether two cells have a side in common."""
    return other in [(one[0] + 1, one[1]), (one[0] - 1, one[1]), (one[0], one[1] + 1), (one[0], one[1] - 1)]


def leaps_in_words(cells):
    """Promise 5, word by word: the numbers from which leaps lead, of a list of all cells of a thread."""
    return [number for number in range(len(cells) - 1) if not near(cells[number], cells[number + 1])]


def field_cells_in_words(field, d):
    """Promise 10, word by word: all cells of a field's thread at a depth."""
    book, squares = field
    size = book[0] ** d
    return [(x * size + u, y * size + v) for x, y, kind in squares for u, v in cells_in_words(book, d, kind)]


def quarter_turn(size, cell):
    """A cell of a square behind a quarter turn against the clock, by the cell's middle about the square's."""
    # All lengths are doubled: the middle of the square is then at whole numbers.
    x, y = 2 * cell[0] + 1 - size, 2 * cell[1] + 1 - size
    x, y = -y, x
    return ((x - 1 + size) // 2, (y - 1 + size) // 2)


def cell_in_posture(size, posture, cell):
    """Promise 8, word by word."""
    for _ in range(posture[0]):
        cell = quarter_turn(size, cell)
    return cell[::-1] if posture[1] else cell


def same_at_depths(one, other, d):
    """For each kind of one and each of the other: whether their threads are the same at the depths 0 to d."""
    same = {(k, j): True for k in range(len(one[1])) for j in range(len(other[1]))}
    for _ in range(d):
        same = {
            (k, j): all(p[:2] == q[:2] and same[p[2], q[2]] for p, q in zip(one[1][k], other[1][j]))
            for k, j in same
        }
    return same


def copies(book, many, last=None):
    """The same threads by so many copies of the kinds, each leading to the next one; the last one's may be others."""
    b, kinds = book
    made = []
    for copy in range(many):
        below = min(copy + 1, many - 1) * len(kinds)
        parts_of_all = (last or book)[1] if copy == many - 1 else kinds
        made += [tuple((x, y, kind + below) for x, y, kind in parts) for parts in parts_of_all]
    return (b, tuple(made))


def nearly_right_book(seed, book, many):
    """Copies of a book with some parts that lead to other kinds of the same copy or the next one."""
    chance = random.Random(f"nearly {seed} {many}")
    b, kinds = copies(book, many)
    size = len(book[1])
    changed = [list(parts) for parts in kinds]
    for _ in range(chance.randrange(1, 4)):
        k = chance.randrange(len(changed))
        at = chance.choice([0, len(changed[k]) - 1, chance.randrange(len(changed[k]))])
        x, y, kind = changed[k][at]
        changed[k][at] = (x, y, kind // size * size + chance.randrange(size))
    return (b, tuple(tuple(parts) for parts in changed))


def wrong_books():
    """What is no book, in many ways."""
    rows = ROWS[1][0]
    snake = tuple((x, y, 0) for x, y in _SNAKE)
    books = [
        None, True, False, 0, 2, -1, 1.5, "", "book", "ab", b"ab", {}, {2: (rows,)}, [], (), (2,), ((rows,),),
        (2, (rows,), 0), (2, (rows,), None), [2, (rows,)], ((rows,), 2), (2, 2), rows, (rows,), {2, 3},
    ]
    books += [(b, (rows,)) for b in (0, 1, 3, 4, -2, 10 ** 30, True, False, "2", "", None, 2.0, (2,), [2], {})]
    books += [(b, (snake,)) for b in (0, 1, 2, 4, 9, True, "3", None, 3.0, [3])]
    books += [(1, (((0, 0, 0),),)), (True, (((0, 0, 0),),)), (1, ()), (0, ((),)), (4, (tuple(
        (x, y, 0) for x in range(4) for y in range(4)),))]
    books += [(2, kinds) for kinds in (
        (), [], {}, None, 0, True, "abcd", "", [rows], {0: rows}, (list(rows),), (None,), (0,), ("abcd",), ((),),
        (rows, ()), (rows, None), (rows, list(rows)), (rows[:3],), (rows + rows[:1],), (rows, rows[:3]),
        (rows, rows + ((1, 1, 1),)), rows, (rows, True), (rows, {}), ((rows,),), (rows, 0), (set(rows),),
    )]
    books += [(2, (kind,)) for kind in broken_kinds(rows, 2, 1)]
    books += [(2, (rows, kind)) for kind in broken_kinds(rows, 2, 2)]
    books += [(3, (snake, kind)) for kind in broken_kinds(snake, 3, 2)]
    books += [(3, (snake, rows)), (2, (rows, snake)), [3, [list(list(part) for part in snake)]]]
    return books


def wrong_fields():
    """What is no field, in many ways."""
    squares = ((1, 0, 0), (0, 0, 3), (0, 1, 2))
    fields = wrong_books() + [ROWS, BENDS, (BENDS,), (squares,), (BENDS, squares, 0), (BENDS, squares, None)]
    fields += [[BENDS, squares], (squares, BENDS), {BENDS: squares}, (BENDS, BENDS), squares, (BENDS, squares, squares)]
    fields += [(book, ((0, 0, 0),)) for book in wrong_books()]
    fields += [(book, squares) for book in (ROWS, None, [2, BENDS[1]], (2, list(BENDS[1])), (3, BENDS[1]))]
    fields += [(BENDS, told) for told in (
        None, True, False, 0, 1, "", "000", b"000", (), [], {}, {0: 0}, list(squares), ((),), (None,), (0,), (0, 0, 0),
        (True,), ("000",), [(0, 0, 0)], {(0, 0, 0)}, {(0, 0, 0): 1}, (squares,), squares + ((),), squares + (None,),
    )]
    x, y, kind = 2, 5, 1
    parts = [
        (x,), (x, y), (x, y, kind, 0), [x, y, kind], (x, y, 4), (x, y, -1), (x, y, 10 ** 30), (x, y, True),
        (x, y, False), (x, y, None), (x, y, "1"), (x, y, 1.0), (x, y, (1,)), (x, y, [1]), (x, y, {}),
        (-1, y, kind), (x, -1, kind), (-10 ** 30, y, kind), (True, y, kind), (x, False, kind), ("2", y, kind),
        (x, "5", kind), (None, y, kind), (x, None, kind), (2.0, y, kind), (x, 5.0, kind), ([x], y, kind),
        (x, [y], kind), ((x, y), kind, 0), (x, {}, kind), (1, 0, 0), (1, 0, 3), (0, 1, 1), (0, 0, 2),
    ]
    fields += [(BENDS, squares + (part,)) for part in parts] + [(BENDS, (part,) + squares) for part in parts]
    fields += [(BENDS, (part,)) for part in parts[:-4]]
    return fields


def broken_kinds(kind, b, many):
    """A right kind of a book of so many kinds with one part made wrong, in many ways."""
    x, y, below = kind[-1]
    parts = [
        (), (x,), (x, y), (x, y, below, 0), (x, y, below, below, 0), [x, y, below], None, True, 0, "110", "", {},
        {x: 0, y: 1, below: 2}, (x, y, many), (x, y, -1), (x, y, 10 ** 30), (x, y, -10 ** 30), (x, y, True),
        (x, y, False), (x, y, "0"), (x, y, None), (x, y, 0.0), (x, y, (0,)), (x, y, [0]), (x, y, {}),
        (b, y, below), (-1, y, below), (x, b, below), (x, -1, below), (10 ** 30, y, below), (x, -10 ** 30, below),
        (True, y, below), (x, True, below), ("1", y, below), (x, "1", below), (None, y, below), (x, None, below),
        (1.0, y, below), (x, 1.0, below), ([x], y, below), (x, [y], below), ((x,), y, below), ((x, y), below, 0),
        kind[0], kind[0][:2] + (many - 1,), kind[-2], ({}, y, below), (x, {}, below),
    ]
    broken = [kind[:-1] + (part,) for part in parts]
    broken += [(part,) + kind[1:] for part in (None, "000", [0, 0, 0], (0, 0), (False, 0, 0), (0, False, 0), kind[1])]
    return broken


def numbers_in_words(book, d):
    """The number of each cell of a depth."""
    return {cell: number for number, cell in enumerate(cells_in_words(book, d))}


def cells_of_box(box):
    """Promise 6, word by word: the cells with x from left on, below right, y from low on, below high."""
    left, low, right, high = box
    return [(x, y) for x in range(left, right) for y in range(low, high)]


def all_boxes(size):
    """All boxes within a square of so many cells each way."""
    pairs = [(first, behind) for behind in range(size + 1) for first in range(behind)]
    return [(left, low, right, high) for left, right in pairs for low, high in pairs]


def some_boxes(seed, size, many):
    """The whole square, its sides, a corner, and so many boxes more, the same ones for the same seed."""
    chance = random.Random(f"boxes {seed} {size}")
    boxes = [(0, 0, size, size), (0, 0, size, 1), (0, 0, 1, size), (size - 1, 0, size, size),
             (0, size - 1, size, size), (size - 1, size - 1, size, size), (0, 0, 1, 1)]
    for _ in range(many):
        left, low = chance.randrange(size), chance.randrange(size)
        boxes.append((left, low, chance.randrange(left, size) + 1, chance.randrange(low, size) + 1))
    return boxes


def spans_of(numbers):
    """The fewest spans of some numbers: one begins where the number before is none of them."""
    held = set(numbers)
    firsts = sorted(number for number in held if number - 1 not in held)
    behinds = sorted(number + 1 for number in held if number + 1 not in held)
    return tuple(zip(firsts, behinds))


def wrong_boxes(size):
    """What is no box within a square of so many cells each way, two or more, in many ways."""
    boxes = [
        None, True, False, 0, -1, 4, "", "0011", b"0011", 0.0, (), (0,), (0, 0), (0, 0, 1), (0, 0, 1, 1, 1),
        (0, 0, size), (0, 0, size, size, None), [0, 0, 1, 1], [], {}, {0: 0, 1: 1}, {0, 1}, ((0, 0), (1, 1)),
        ((0, 0, 1, 1),), (None,) * 4, (True,) * 4, (False, False, True, True), ("0", "0", "1", "1"),
        # Empty ones.
        (0, 0, 0, 0), (0, 0, 0, 1), (0, 0, 1, 0), (1, 1, 1, 2), (1, 1, 2, 1), (size, 0, size, 1), (0, size, 1, size),
        (size, size, size, size), (0, 0, 0, size), (0, 0, size, 0),
        # Turned round.
        (1, 0, 0, 1), (0, 1, 1, 0), (1, 1, 0, 0), (size, 0, 0, size), (0, size, size, 0), (2, 0, 1, 2), (0, 2, 2, 1),
        # Beyond the depth.
        (0, 0, size + 1, 1), (0, 0, 1, size + 1), (0, 0, size + 1, size + 1), (size, 0, size + 1, 1),
        (0, size, 1, size + 1), (size, size, size + 1, size + 1), (size + 1, 0, size + 2, 1), (0, 0, 10 ** 60, 1),
        (0, 0, 1, 10 ** 60), (-1, 0, 1, 1), (0, -1, 1, 1), (-1, -1, 1, 1), (-2, 0, -1, 1), (0, -2, 1, -1),
        (-10 ** 30, 0, 1, 1), (-size, -size, 0, 0), (-1, 0, size, size), (0, -1, size, size),
    ]
    right = (0, 0, size, size)
    for at in range(4):
        for wrong in (None, True, False, "0", "1", "", b"1", 0.0, 1.0, (), (1,), [], [1], {}, -1):
            boxes.append(right[:at] + (wrong,) + right[at + 1:])
    return boxes


CUP = (2, ((0, 0), (0, 1), (1, 1), (1, 0)))
# The make of the cup whose thread is bends.
BENT = ((0, 1, 0), (0, 0, 0), (0, 0, 0), (2, 1, 0))
SNAKE = (3, _SNAKE)
ALL_TURNS = [(way, mirror, back) for way in range(4) for mirror in range(2) for back in range(2)]


def all_pictures(b):
    """All pictures: all ways through the places by neighbors, from every place."""
    places = [(x, y) for x in range(b) for y in range(b)]
    ways = [(place,) for place in places]
    for _ in range(b * b - 1):
        ways = [way + (place,) for way in ways for place in places if place not in way and near(way[-1], place)]
    return [(b, way) for way in ways]


def random_make(seed, many):
    """So many turns, the same ones for the same seed."""
    chance = random.Random(f"make {seed} {many}")
    return tuple(chance.choice(ALL_TURNS) for _ in range(many))


def mother_in_words(picture, make, d):
    """Promise 11, word by word: the cells of the thread of the mother at a depth."""
    if d == 0:
        return [(0, 0)]
    b, places = picture
    side = b ** (d - 1)
    before = mother_in_words(picture, make, d - 1)
    cells = []
    for (x, y), (way, mirror, back) in zip(places, make):
        moved = [cell_in_posture(side, (way, mirror), cell) for cell in before]
        cells += [(x * side + u, y * side + v) for u, v in (moved[::-1] if back else moved)]
    return cells


def some_stores():
    """Stores of many books and depths, of no number to two hundred."""
    stores = []
    for seed, book in enumerate(small_books() + large_books()):
        for at, (d, many) in enumerate(((0, 0), (0, 1), (1, 2), (2, 7), (3, 20), (3, 60), (60, 200))):
            if (seed + at) % 3 == 0:
                continue
            chance = random.Random(f"store {seed} {d} {many}")
            cells = book[0] ** (2 * d)
            stores.append((book, d, tuple(sorted({chance.randrange(cells) for _ in range(many)}))))
    stores.append((ROWS, 2, tuple(range(16))))
    return stores


def wrong_pictures():
    """What is no picture, in many ways."""
    b, places = CUP
    pictures = wrong_books() + [ROWS, PEANO, places, (places,), (b,), (places, b), [b, places], (b, list(places)),
                                (b, places, 0), (b, places, None), {b: places}, (b, places[:3]), (b, places + places[:1]),
                                (b, places * 2), (3, places), (2, SNAKE[1]), (4, tuple(
                                    (x, y if x % 2 == 0 else 3 - y) for x in range(4) for y in range(4)))]
    pictures += [(wrong, places) for wrong in (0, 1, 3, 4, -2, True, False, None, "2", 2.0, (2,), [2], 10 ** 30)]
    pictures += [(1, ((0, 0),)), (True, ((0, 0),)), (0, ()), (2, ()), (3, ()), (2, None), (2, "0011"), (2, {}), (2, 4)]
    pictures += [(2, ((0, 0), (1, 1), (0, 1), (1, 0))), (2, ((0, 0), (0, 1), (1, 0), (1, 1))), (2, ((0, 0),) * 4),
                 (2, ((0, 0), (0, 1), (0, 0), (0, 1))), (2, ((0, 0), (0, 1), (1, 1), (0, 1)))]
    for at in range(4):
        x, y = places[at]
        for wrong in ((), (x,), (x, y, 0), [x, y], None, True, 0, "00", "", {}, {x: y}, (x, 2), (2, y), (-1, y), (x, -1),
                      (bool(x), y), (x, bool(y)), (str(x), y), (x, str(y)), (float(x), y), (x, None), ([x], y), (x, [y]),
                      ((x, y),), (x + 10 ** 30, y), places[at - 1]):
            pictures.append((b, places[:at] + (wrong,) + places[at + 1:]))
    snake = SNAKE[1]
    pictures += [(3, snake[:at] + (snake[at + 1], snake[at]) + snake[at + 2:]) for at in range(8)]
    pictures += [(3, snake[:8]), (3, snake[:8] + ((3, 2),)), (3, snake[:8] + ([2, 2],)), (3, snake + ((3, 2),))]
    return pictures


def wrong_makes(picture):
    """What is no make of a picture, in many ways."""
    many = picture[0] ** 2
    make = random_make(1, many)
    makes = [None, True, False, 0, many, "", "0000", b"0000", 0.0, [], (), {}, list(make), make[:-1], make + make[:1],
             make * 2, (make,), (0, 0, 0), ((0, 0, 0),) * (13 - many), picture, {make[0]: 1}, (None,) * many,
             (True,) * many, (0,) * many, ("000",) * many, ((0, 0),) * many, ((0, 0, 0, 0),) * many, ((),) * many,
             (((0, 0), 0),) * many]
    for at in range(many):
        way, mirror, back = make[at]
        for wrong in (
            (), (way,), (way, mirror), (way, mirror, back, 0), ((way, mirror), back), [way, mirror, back], None, True, 0,
            "000", {}, (4, mirror, back), (-1, mirror, back), (10 ** 30, mirror, back), (way, 2, back), (way, -1, back),
            (way, mirror, 2), (way, mirror, -1), (True, mirror, back), (way, True, back), (way, mirror, True),
            (way, False, back), (way, mirror, False), (str(way), mirror, back), (way, str(mirror), back),
            (way, mirror, str(back)), (None, mirror, back), (way, None, back), (way, mirror, None), (0.0, 0, 0),
            (way, 0.0, back), (way, mirror, 1.0), ([way], mirror, back), (way, [mirror], back), (way, mirror, [back]),
        ):
            makes.append(make[:at] + (wrong,) + make[at + 1:])
    return makes


def wrong_stores():
    """What is no store, in many ways."""
    numbers = (3, 7, 12)
    stores = wrong_books() + [ROWS, BENDS, (BENDS,), (BENDS, 2), (BENDS, numbers), (BENDS, numbers, 2), (2, BENDS, numbers)]
    stores += [[BENDS, 2, numbers], (BENDS, 2, numbers, 0), (BENDS, 2, numbers, None), (BENDS, 2, list(numbers)),
               {0: BENDS, 1: 2, 2: numbers}, (BENDS, 2, numbers, numbers), (numbers, 2, BENDS)]
    stores += [(book, 2, numbers) for book in wrong_books()]
    stores += [(BENDS, d, numbers) for d in (-1, -2, 0, 1, True, False, None, "2", "", 2.0, (2,), [2], {}, -10 ** 30)]
    stores += [(BENDS, d, ()) for d in (-1, True, False, None, "2", 2.0, (2,), [2], {})]
    stores += [(BENDS, 2, told) for told in (
        None, True, False, 0, 3, "", "37", b"37", [], {}, {3: 7}, {3, 7}, (None,), (True,), (False,), (False, True),
        ("3",), (3.0,), ((3,),), ([3],), ({},), (-1,), (16,), (17,), (10 ** 60,), (-1, 3), (3, 16), (3, 3), (7, 3),
        (3, 7, 7), (3, 12, 7), (3, 7, 3), (0, 0), (3, None), (None, 3), (3, True), (True, 3), (0, True), (False, 1),
        (3, "7"), (3, 7.0), numbers + (12,), (12, 7, 3), (numbers,), (3, (7,)), (3, [7]),
    )]
    stores += [(PEANO, 1, (9,)), (PEANO, 1, (8, 9)), (ROWS, 0, (1,)), (ROWS, 0, (0, 1)), (ROWS, 60, (4 ** 60,))]
    return stores
