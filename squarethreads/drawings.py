"""Threads drawn with signs, and with numbers."""

from squarethreads.integers import power
from squarethreads.paths import is_near
from squarethreads.threads import whole


def drawn(book, d):
    """Return the rows of signs that show the thread of a depth, the topmost one first."""
    cells = whole(book, d)
    many = 2 * power(book[0], d) - 1
    # Each row of signs stands at the index of its height until the last line.
    signs = [[" "] * many for height in range(many)]
    for x, y in cells:
        signs[2 * y][2 * x] = "o"
    for k in range(len(cells) - 1):
        x, y = cells[k]
        u, v = cells[k + 1]
        if is_near(cells[k], cells[k + 1]):
            # The sum of two neighbors' places is twice the middle between them.
            signs[y + v][x + u] = _step_sign(cells[k], cells[k + 1])
    return ["".join(row) for row in signs[::-1]]


def _step_sign(one, other):
    """Return the sign of the step between two cells with a side in common."""
    if one[1] == other[1]:
        return "-"
    return "|"


def numbers_drawn(book, d):
    """Return the rows of the numbers of the cells of a depth, the topmost one first."""
    cells = whole(book, d)
    size = power(book[0], d)
    numbers = [[0] * size for height in range(size)]
    for number in range(len(cells)):
        x, y = cells[number]
        numbers[size - 1 - y][x] = number
    return numbers
