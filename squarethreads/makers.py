"""Pictures and their makes: books whose kinds are all one mother kind, turned, mirrored and gone backward."""

from squarethreads.books import begun_at, in_posture, is_turn
from squarethreads.errors import InvalidMake, InvalidPicture
from squarethreads.integers import is_whole
from squarethreads.paths import is_near, is_path, leap_depth_of_step
from squarethreads.threads import is_cell

# All turns (way, mirror, back), ascending, so that the mother's own is the first one.
TURNS = (
    (0, 0, 0), (0, 0, 1), (0, 1, 0), (0, 1, 1), (1, 0, 0), (1, 0, 1), (1, 1, 0), (1, 1, 1),
    (2, 0, 0), (2, 0, 1), (2, 1, 0), (2, 1, 1), (3, 0, 0), (3, 0, 1), (3, 1, 0), (3, 1, 1),
)


def is_picture(told):
    """Tell whether something, whatever it is, is a picture."""
    if not isinstance(told, tuple) or len(told) != 2:
        return False
    b, places = told
    if not is_whole(b) or b not in (2, 3):
        return False
    if not isinstance(places, tuple) or len(places) != b * b:
        return False
    # Only what is known to be integers may go into a set: a list in a place could not.
    if not all([is_cell(b, place) for place in places]) or len(set(places)) != b * b:
        return False
    return all([is_near(places[k], places[k + 1]) for k in range(len(places) - 1)])


def _check_picture(picture):
    """Raise InvalidPicture unless it is a picture."""
    if not is_picture(picture):
        raise InvalidPicture(picture)


def is_make(picture, told):
    """Tell whether something, whatever it is, is a make of a picture."""
    _check_picture(picture)
    if not isinstance(told, tuple) or len(told) != len(picture[1]):
        return False
    return all([is_turn(turn) for turn in told])


def made(picture, make):
    """Return the book of a make, the mother first, with a kind for each turn that is met."""
    _check_picture(picture)
    if not is_make(picture, make):
        raise InvalidMake(make)
    return begun_at(_book_of_turns(picture, make), 0)


def _book_of_turns(picture, make):
    """Return the book with a kind for each turn, in the sequence of TURNS: the mother, turned so."""
    return (picture[0], tuple([_turned_mother(picture, make, turn) for turn in TURNS]))


def _turned_mother(picture, make, turn):
    """Return the parts of the mother of a make in a turn."""
    b, places = picture
    parts = []
    for k in range(len(places)):
        x, y = in_posture(b, turn[:2], places[k])
        parts.append((x, y, TURNS.index(_turned_again(make[k], turn))))
    if turn[2] == 1:
        parts.reverse()
    return tuple(parts)


def _turned_again(first, second):
    """Return the turn that is as much as one turn and then a second one."""
    way, mirror, back = first
    more, mirrored, gone = second
    # Behind a mirror a quarter turn is one the other way round.
    if mirror == 1:
        more = -more
    return ((way + more) % 4, (mirror + mirrored) % 2, (back + gone) % 2)


def goes_on(picture, make):
    """Tell whether the mother's threads of a make are paths at all depths."""
    return is_path(made(picture, make))


def makes(picture):
    """Return the ascending list of all makes that go on."""
    _check_picture(picture)
    found = []
    for first in TURNS:
        for last in TURNS:
            found.extend(_makes_between(picture, first, last))
    return sorted(found)


def _makes_between(picture, first, last):
    """Return the list of the makes with a first and a last turn that go on."""
    places = picture[1]
    # Where threads begin and end is decided by the first and the last turn: the others may be any.
    book = _book_of_turns(picture, (first,) * (len(places) - 1) + (last,))
    rows = [(first,)]
    for k in range(1, len(places)):
        rows = [row + (turn,) for row in rows for turn in TURNS if _stays_near(book, places, k, row[-1], turn)]
    return [row for row in rows if row[-1] == last]


def _stays_near(book, places, k, before, turn):
    """Tell whether the step to the place k is near at all depths, from a turn at the place before to one there."""
    one = places[k - 1] + (TURNS.index(before),)
    other = places[k] + (TURNS.index(turn),)
    return leap_depth_of_step(book, one, other) is None


def how_many_makes(picture):
    """Return how many makes go on."""
    return len(makes(picture))
