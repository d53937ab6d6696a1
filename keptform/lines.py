"""The spots between two drawings, and the form of a letter there."""

from keptform.errors import BadValue
from keptform.forms import fault
from keptform.letters import mixture, need_drawing, need_letter
from keptform.motions import Motion
from keptform.roots import between
from keptform.values import is_fraction_between


def _pieces(marks):
    """The marks, and what is between each two neighbours, ascending, as quadruples like those of spans."""
    found = []
    for low, high in zip(marks, marks[1:]):
        found.append((low, True, low, True))
        found.append((low, False, high, False))
    return found + [(marks[-1], True, marks[-1], True)]


def _spot_of(piece):
    """A spot of the piece."""
    low, with_low, high, _ = piece
    if with_low:
        return low
    return between(low, high)


def spans(letter, one, other):
    """The longest spans of spots at which the form holds, as quadruples (low, with_low, high, with_high)."""
    need_letter(letter, 0)
    need_drawing(letter, one, 1)
    need_drawing(letter, other, 2)
    motion = Motion(letter, one, other)
    found = []
    goes_on = False
    for piece in _pieces(motion.marks()):
        holds = motion.holds_at(_spot_of(piece))
        if holds and goes_on:
            found[-1] = found[-1][:2] + piece[2:]
        elif holds:
            found.append(piece)
        goes_on = holds
    return tuple(found)


def fault_between(letter, one, other, spot):
    """What is wrong with the form at the spot, a fraction, or None if it holds."""
    need_letter(letter, 0)
    need_drawing(letter, one, 1)
    need_drawing(letter, other, 2)
    if not is_fraction_between(spot, 0, 1):
        raise BadValue(3)
    top, bottom = spot
    return fault(letter, mixture(letter, (one, other), ((bottom - top, bottom), (top, bottom))))
