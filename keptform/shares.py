"""The shares of a side that are met by a corner in the mixtures of masters."""

from keptform.errors import BadValue
from keptform.forms import is_end, side_ends
from keptform.letters import need_letter, need_masters, needed_corner
from keptform.means import Means
from keptform.roots import between
from keptform.vectors import step


def _lead(letter, drawing, corner, side):
    """The vector from the place of a share of the side to the corner, as (rate, start)."""
    ring, number = corner
    start, end = side_ends(letter, drawing, side)
    return (step(end, start), step(start, drawing[ring][number]))


def leads(letter, masters, corner, side):
    """The means of the vectors from a share of the side to the corner: where one is zero, the share is met."""
    return Means([_lead(letter, drawing, corner, side) for drawing in masters])


def _spans(means):
    """The longest spans of shares at which some mean is zero."""
    marks = means.marks()
    found = []
    low = None
    for at, mark in enumerate(marks):
        if not means.have_zero(mark):
            continue
        if low is None:
            low = mark
        # Spans include their ends, so that a span goes on behind a mark only from a mark that is met.
        if at + 1 == len(marks) or not means.have_zero(between(mark, marks[at + 1])):
            found.append((low, mark))
            low = None
    return tuple(found)


def shares(letter, masters, corner, side):
    """The longest spans of shares of the side that are met by the corner, ascending."""
    need_letter(letter, 0)
    need_masters(letter, masters, 1)
    met = needed_corner(letter, corner, 2)
    on = needed_corner(letter, side, 3)
    if is_end(letter, met, on):
        raise BadValue(3)
    return _spans(leads(letter, masters, met, on))
