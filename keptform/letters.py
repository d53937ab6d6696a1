"""Letters, their drawings, and the mixtures of masters."""

from keptform.errors import BadValue
from keptform.values import common_bottom, is_fraction, is_row, is_whole_between, lowest, top_over

MANNERS = ("any", "left", "right", "straight")
MOST_RINGS = 3
FEWEST_IN_RING = 3
MOST_IN_RING = 8
MOST_CORNERS = 10
FARTHEST = 99
MOST_MASTERS = 4


def _is_ring(value):
    """Whether value is a ring of manners."""
    if not is_row(value, FEWEST_IN_RING, MOST_IN_RING):
        return False
    return all([manner in MANNERS for manner in value])


def is_letter(value):
    """Whether value is a letter."""
    if not is_row(value, 1, MOST_RINGS) or not all([_is_ring(ring) for ring in value]):
        return False
    return sum([len(ring) for ring in value]) <= MOST_CORNERS


def plain_letter(letter):
    """The letter, of tuples only."""
    return tuple([tuple(ring) for ring in letter])


def plain_drawing(drawing):
    """The drawing, of tuples only."""
    return tuple([tuple([tuple(place) for place in ring]) for ring in drawing])


def need_letter(letter, at):
    """Refuse what is no letter; at is its position among the arguments."""
    if not is_letter(letter):
        raise BadValue(at)


def all_corners(letter):
    """The corners of a letter, ascending; its sides are told by the same pairs."""
    return [(ring, number) for ring in range(len(letter)) for number in range(len(letter[ring]))]


def next_corner(letter, corner):
    """The next corner of the ring: where the side that begins at this one ends."""
    ring, number = corner
    return (ring, (number + 1) % len(letter[ring]))


def is_corner(letter, value):
    """Whether value tells a corner of the letter, or the side that begins there."""
    if not is_row(value, 2, 2) or not is_whole_between(value[0], 0, len(letter) - 1):
        return False
    return is_whole_between(value[1], 0, len(letter[value[0]]) - 1)


def needed_corner(letter, value, at):
    """The corner or side as a plain tuple; what is none is refused, at being its position among the arguments."""
    if not is_corner(letter, value):
        raise BadValue(at)
    return tuple(value)


def is_coordinate(value):
    """Whether value is a coordinate of a place that is passed by itself."""
    return is_whole_between(value, -FARTHEST, FARTHEST)


def is_place(value, is_number):
    """Whether value is a place, with coordinates that are such numbers."""
    return is_row(value, 2, 2) and all([is_number(worth) for worth in value])


def _is_ring_of_places(value, many, is_number):
    """Whether value is a sequence of so many places."""
    return is_row(value, many, many) and all([is_place(place, is_number) for place in value])


def has_places(letter, value, is_number):
    """Whether value has the places of a drawing of the letter, with coordinates that are such numbers."""
    if not is_row(value, len(letter), len(letter)):
        return False
    return all([_is_ring_of_places(row, len(ring), is_number) for ring, row in zip(letter, value)])


def is_drawing(letter, value):
    """Whether value is a drawing of the letter."""
    need_letter(letter, 0)
    return has_places(letter, value, is_coordinate)


def need_drawing(letter, drawing, at):
    """Refuse what is no drawing of the letter; at is its position among the arguments."""
    if not has_places(letter, drawing, is_coordinate):
        raise BadValue(at)


def is_row_of_drawings(letter, value, fewest, most):
    """Whether value is a sequence of so many drawings of the letter."""
    return is_row(value, fewest, most) and all([has_places(letter, drawing, is_coordinate) for drawing in value])


def need_masters(letter, masters, at):
    """Refuse what is no masters of the letter; at is their position among the arguments."""
    if not is_row_of_drawings(letter, masters, 1, MOST_MASTERS):
        raise BadValue(at)


def is_weights(value, many):
    """Whether value is weights for so many masters."""
    if not is_row(value, many, many):
        return False
    if not all([is_fraction(weight) and weight[0] >= 0 for weight in value]):
        return False
    bottom = common_bottom(value)
    return sum([top_over(weight, bottom) for weight in value]) == bottom


def _mixed_place(places, tops, bottom):
    """The mean of a corner's places by the weights tops / bottom."""
    x = sum([top * place[0] for top, place in zip(tops, places)])
    y = sum([top * place[1] for top, place in zip(tops, places)])
    return (lowest(x, bottom), lowest(y, bottom))


def _mixed_ring(rings, tops, bottom):
    """The mean of a ring's rows of places by the weights tops / bottom."""
    return tuple([_mixed_place(places, tops, bottom) for places in zip(*rings)])


def mixture(letter, masters, weights):
    """The mixture of the masters by the weights, a drawing of fractions."""
    need_letter(letter, 0)
    need_masters(letter, masters, 1)
    if not is_weights(weights, len(masters)):
        raise BadValue(2)
    bottom = common_bottom(weights)
    tops = [top_over(weight, bottom) for weight in weights]
    return tuple([_mixed_ring(rings, tops, bottom) for rings in zip(*masters)])
