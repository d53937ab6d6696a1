"""The form of one drawing: what is wrong with it, and which ring lies within which."""

from keptform.errors import BadValue
from keptform.letters import FARTHEST, all_corners, has_places, is_coordinate, is_drawing, need_letter, next_corner
from keptform.values import common_bottom, is_fraction_between, is_whole, is_whole_between, top_over
from keptform.vectors import cross_product, step


def _is_mixed_coordinate(value):
    """Whether value is a coordinate of a drawing or of a mixture."""
    return is_coordinate(value) or is_fraction_between(value, -FARTHEST, FARTHEST)


def _as_fraction(number):
    """An integer or a fraction as a fraction."""
    if is_whole(number):
        return (number, 1)
    return number


def _scaled_place(place, bottom):
    """A place of integers or fractions, times this common bottom."""
    x, y = place
    return (top_over(_as_fraction(x), bottom), top_over(_as_fraction(y), bottom))


def scaled(drawing):
    """The drawing in integers, larger by one factor above 0, which alters nothing that is told of its form."""
    bottom = common_bottom([_as_fraction(number) for ring in drawing for place in ring for number in place])
    return [[_scaled_place(place, bottom) for place in ring] for ring in drawing]


def turn(before, at, after):
    """The turn at a place between two others: above 0 to the left, below 0 to the right."""
    return cross_product(step(before, at), step(at, after))


def lies_on(place, start, end):
    """Whether a place is one of the straight line from start to end, these included."""
    if turn(start, end, place) != 0:
        return False
    if not min(start[0], end[0]) <= place[0] <= max(start[0], end[0]):
        return False
    return min(start[1], end[1]) <= place[1] <= max(start[1], end[1])


def _parts(start, end, one, other):
    """Whether one and other lie strictly on two sides of the line through start and end."""
    return turn(start, end, one) * turn(start, end, other) < 0


def cross(start, end, one, other):
    """Whether two lines cross of which no end lies on the other line."""
    return _parts(start, end, one, other) and _parts(one, other, start, end)


def turns_as_it_must(manner, worth):
    """Whether a turn is as the manner says."""
    if manner == "left":
        return worth > 0
    if manner == "right":
        return worth < 0
    return manner == "any" or worth == 0


def is_end(letter, corner, side):
    """Whether the corner is an end of the side."""
    return corner == side or corner == next_corner(letter, side)


def side_ends(letter, places, side):
    """The places at which a side begins and ends."""
    ring, number = side
    return (places[ring][number], places[ring][next_corner(letter, side)[1]])


def corner_turn(letter, places, corner):
    """The turn of a corner."""
    ring, number = corner
    at, after = side_ends(letter, places, corner)
    return turn(places[ring][number - 1], at, after)


def _first_fall(letter, places):
    """The least side that has fallen, as fault tells it, or None."""
    for side in all_corners(letter):
        start, end = side_ends(letter, places, side)
        if start == end:
            return ("fall", side)
    return None


def _first_touch(letter, places):
    """The least corner that lies on a side, as fault tells it, or None."""
    for corner in all_corners(letter):
        ring, number = corner
        for side in all_corners(letter):
            start, end = side_ends(letter, places, side)
            if not is_end(letter, corner, side) and lies_on(places[ring][number], start, end):
                return ("touch", corner, side)
    return None


def _first_cross(letter, places):
    """The least side that crosses another one, as fault tells it, or None, where no corner lies on a side."""
    for side in all_corners(letter):
        start, end = side_ends(letter, places, side)
        for other in all_corners(letter):
            one, two = side_ends(letter, places, other)
            if cross(start, end, one, two):
                return ("cross", side, other)
    return None


def _first_bend(letter, places):
    """The least corner that does not turn as it must, as fault tells it, or None."""
    for corner in all_corners(letter):
        ring, number = corner
        if not turns_as_it_must(letter[ring][number], corner_turn(letter, places, corner)):
            return ("bend", corner)
    return None


def _first_tangle(letter, places):
    """The first fault that is no bend, or None."""
    # The sequence matters for more than the answer: cross is right only where nothing falls or touches.
    return _first_fall(letter, places) or _first_touch(letter, places) or _first_cross(letter, places)


def fault(letter, drawing):
    """What is wrong with the form of the drawing, or None if it holds."""
    need_letter(letter, 0)
    if not has_places(letter, drawing, _is_mixed_coordinate):
        raise BadValue(1)
    places = scaled(drawing)
    return _first_tangle(letter, places) or _first_bend(letter, places)


def _is_around(ring, point):
    """Whether a ring of places, none of whose sides the point lies on, goes around the point."""
    around = False
    for number in range(len(ring)):
        start, end = ring[number - 1], ring[number]
        rises = end[1] > point[1]
        # A ray from the point to the right meets a side that goes up there only with the point on its left.
        if rises != (start[1] > point[1]) and rises == (turn(start, end, point) > 0):
            around = not around
    return around


def inside(letter, drawing, ring, other):
    """Whether a ring lies within the other one."""
    need_letter(letter, 0)
    if not is_drawing(letter, drawing) or _first_tangle(letter, scaled(drawing)) is not None:
        raise BadValue(1)
    last = len(letter) - 1
    if not is_whole_between(ring, 0, last):
        raise BadValue(2)
    if not is_whole_between(other, 0, last) or other == ring:
        raise BadValue(3)
    # Rings that neither touch nor cross lie apart or one within the other: one corner tells for all.
    return _is_around(drawing[other], drawing[ring][0])
