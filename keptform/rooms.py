"""Whether a letter keeps its form in all mixtures of masters, and where it does not."""

from itertools import combinations

from keptform.forms import fault, is_end, side_ends
from keptform.letters import MOST_MASTERS, all_corners, need_letter, need_masters
from keptform.means import some_mean_is_zero
from keptform.shares import leads
from keptform.turns import turn_worths
from keptform.vectors import step
from keptform.worths import greatest_worth, least_worth


def _is_met(letter, masters, corner, side):
    """Whether the corner lies on the side, of which it is no end, in some mixture."""
    return not is_end(letter, corner, side) and leads(letter, masters, corner, side).have_zero_anywhere()


def _falls(letter, masters, side):
    """Whether the side has fallen in some mixture."""
    ends = [side_ends(letter, drawing, side) for drawing in masters]
    return some_mean_is_zero([step(start, end) for start, end in ends])


def _bends(letter, masters, corner):
    """Whether the corner does not turn as it must in some mixture."""
    ring, number = corner
    manner = letter[ring][number]
    if manner == "any":
        return False
    worths = turn_worths(letter, masters, corner)
    if manner == "left":
        return least_worth(worths, len(masters))[0][0] <= 0
    if manner == "right":
        return greatest_worth(worths, len(masters))[0][0] >= 0
    # A form is 0 for all weights only if all of its worths are.
    return any([worths[pair] != 0 for pair in worths])


def _met_sides(letter, masters, corner):
    """The sides that the corner meets in some mixture, ascending."""
    return [side for side in all_corners(letter) if _is_met(letter, masters, corner, side)]


def meetings(letter, masters):
    """The pairs of a corner and a side on which it lies in some mixture, ascending."""
    need_letter(letter, 0)
    need_masters(letter, masters, 1)
    return tuple([(corner, side) for corner in all_corners(letter) for side in _met_sides(letter, masters, corner)])


def fallen(letter, masters):
    """The sides that have fallen in some mixture, ascending."""
    need_letter(letter, 0)
    need_masters(letter, masters, 1)
    return tuple([side for side in all_corners(letter) if _falls(letter, masters, side)])


def bent(letter, masters):
    """The corners that do not turn as they must in some mixture, ascending."""
    need_letter(letter, 0)
    need_masters(letter, masters, 1)
    return tuple([corner for corner in all_corners(letter) if _bends(letter, masters, corner)])


def holds_throughout(letter, masters):
    """Whether the form holds in every mixture of what surely is masters."""
    # Where no corner meets a side and no side falls, sides that cross in one mixture cross in all: a single drawing
    # tells it for the room.
    if fault(letter, masters[0]) is not None:
        return False
    for part in all_corners(letter):
        if _falls(letter, masters, part) or _bends(letter, masters, part) or _met_sides(letter, masters, part):
            return False
    return True


def is_kept(letter, masters):
    """Whether the form holds in every mixture of the masters."""
    need_letter(letter, 0)
    need_masters(letter, masters, 1)
    return holds_throughout(letter, masters)


def _parts(numbers):
    """What is left of a row of numbers without one of them, unless nothing is left."""
    if len(numbers) == 1:
        return []
    return [numbers[:at] + numbers[at + 1:] for at in range(len(numbers))]


def largest_rooms(letter, drawings):
    """The sets of 1 to 4 drawings that are kept and are part of no greater one, as rows of their numbers, ascending."""
    kept = {}
    for size in range(1, MOST_MASTERS + 1):
        for numbers in combinations(range(len(drawings)), size):
            # If masters are kept, so are any of them: where a part is not kept, there is no need to look.
            if all([part in kept for part in _parts(numbers)]):
                if holds_throughout(letter, [drawings[number] for number in numbers]):
                    kept[numbers] = True
    within = {part: True for numbers in kept for part in _parts(numbers)}
    return sorted([numbers for numbers in kept if numbers not in within])
