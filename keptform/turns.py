"""The turns of corners and the areas of rings in the mixtures of masters."""

from keptform.errors import BadValue
from keptform.forms import side_ends
from keptform.letters import need_letter, need_masters, needed_corner
from keptform.values import is_whole_between
from keptform.vectors import step
from keptform.worths import added_worths, cross_worths, greatest_worth, least_worth


def turn_worths(letter, masters, corner):
    """The turn of the corner in the mixtures, as a quadratic form of the weights."""
    ring, number = corner
    arriving = []
    leaving = []
    for drawing in masters:
        at, after = side_ends(letter, drawing, corner)
        arriving.append(step(drawing[ring][number - 1], at))
        leaving.append(step(at, after))
    return cross_worths(arriving, leaving)


def _side_worths(letter, masters, side):
    """What the side adds to twice the signed area of its ring, as a quadratic form of the weights."""
    ends = [side_ends(letter, drawing, side) for drawing in masters]
    return cross_worths([start for start, _ in ends], [end for _, end in ends])


def least_turn(letter, masters, corner):
    """The least turn of the corner in any mixture, and weights for which it has it."""
    need_letter(letter, 0)
    need_masters(letter, masters, 1)
    return least_worth(turn_worths(letter, masters, needed_corner(letter, corner, 2)), len(masters))


def greatest_turn(letter, masters, corner):
    """The greatest turn of the corner in any mixture, and weights for which it has it."""
    need_letter(letter, 0)
    need_masters(letter, masters, 1)
    return greatest_worth(turn_worths(letter, masters, needed_corner(letter, corner, 2)), len(masters))


def area(letter, masters, ring):
    """Twice the signed area of the ring in the mixtures, as triples (i, j, worth)."""
    need_letter(letter, 0)
    need_masters(letter, masters, 1)
    if not is_whole_between(ring, 0, len(letter) - 1):
        raise BadValue(2)
    worths = added_worths([_side_worths(letter, masters, (ring, number)) for number in range(len(letter[ring]))])
    return tuple([(i, j, worths[(i, j)]) for i, j in sorted(worths)])
