"""Whether a letter keeps its form in all mixtures of masters, and where it does not."""

from keptform.forms import fault, is_end, side_ends
from keptform.letters import all_corners, need_letter, need_masters
from keptform.means import some_mean_is_zero
from keptform.shares import leads
from keptform.turns import turn_worths
from keptform.vectors import step
from keptform.worths import greatest_worth, least_worth


def _is_met(letter, masters, corner, side):
    """Whether the corner lies on the side, of which it is no end, in some mixture."""
    return not is_end(letter, corner, side) and leads(letter, masters, corner, side).have_zero_anywhere()


def _falls(letter, masters, side):
    """Whether the side has fallen in some mixture."""
    ends = [side_ends(letter, drawing, side) for drawing in masters]
    return some_mean_is_zero([step(start, end) for start, end in ends])


def _bends(letter, masters, corner):
    """Whether the corner does not turn as it must in some mixture."""
    ring, number = corner
    manner = letter[ring][number]
    if manner == "any":
        return False
    worths = turn_worths(letter, masters, corner)
    if manner == "left":
        return least_worth(worths, len(masters))[0][0] <= 0
    if manner == "right":
        return greatest_worth(worths, len(masters))[0][0] >= 0
    # A form is 0 for all weights only if all of its worths are.
    return any([worths[pair] != 0 for pair in worths])


def _met_sides(letter, masters, corner):
    """The sides that the corner meets in some mixture, ascending."""
    return [side for side in all_corners(letter) if _is_met(letter, masters, corner, side)]


def meetings(letter, masters):
    """The pairs of a corner and a side on which it lies in some mixture, ascending."""
    need_letter(letter, 0)
    need_masters(letter, masters, 1)
    return tuple([(corner, side) for corner in all_corners(letter) for side in _met_sides(letter, masters, corner)])


def fallen(letter, masters):
    """The sides that have fallen in some mixture, ascending."""
    need_letter(letter, 0)
    need_masters(letter, masters, 1)
    return tuple([side for side in all_corners(letter) if _falls(letter, masters, side)])


def bent(letter, masters):
    """The corners that do not turn as they must in some mixture, ascending."""
    need_letter(letter, 0)
    need_masters(letter, masters, 1)
    return tuple([corner for corner in all_corners(letter) if _bends(letter, masters, corner)])


def is_kept(letter, masters):
    """Whether the form holds in every mixture of the masters."""
    need_letter(letter, 0)
    need_masters(letter, masters, 1)
    # Where no corner meets a side and no side falls, sides that cross in one mixture cross in all: a single drawing
    # tells it for the room.
    if fault(letter, masters[0]) is not None:
        return False
    for part in all_corners(letter):
        if _falls(letter, masters, part) or _bends(letter, masters, part) or _met_sides(letter, masters, part):
            return False
    return True
