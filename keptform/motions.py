"""Letters that change evenly from one drawing to another one: their form, at each spot between."""

from keptform.forms import is_end, turns_as_it_must
from keptform.letters import all_corners, next_corner
from keptform.roots import marks_of, sign_at
from keptform.vectors import cross_product, dot_product, moving_product, step


def _lead(one, other, start, end):
    """The vector from a corner to another one; it moves with the spot."""
    first, last = [step(drawing[start[0]][start[1]], drawing[end[0]][end[1]]) for drawing in (one, other)]
    return (step(first, last), first)


class Motion:
    """What the form of a letter depends on between two drawings, as polynomials of the spot.

    By (side, corner), for corners that are no ends of the side, turns has the turn at the side's end if one goes on to
    the corner, and dots the dot product of the vectors from the side's ends to the corner.
    """

    def __init__(self, letter, one, other):
        self._letter = letter
        self.turns = {}
        self.dots = {}
        for side in all_corners(letter):
            end = next_corner(letter, side)
            along = _lead(one, other, side, end)
            for corner in all_corners(letter):
                if not is_end(letter, corner, side):
                    onward = _lead(one, other, end, corner)
                    self.turns[(side, corner)] = moving_product(cross_product, along, onward)
                    self.dots[(side, corner)] = moving_product(dot_product, _lead(one, other, side, corner), onward)

    def marks(self):
        """Ascending spots from 0 to 1, these included, between which the form holds everywhere or nowhere."""
        # The form depends on the signs of these polynomials alone.
        return marks_of(list(self.turns.values()) + list(self.dots.values()))

    def holds_at(self, spot):
        """Whether the form holds at the spot."""
        signs = {pair: sign_at(self.turns[pair], spot) for pair in self.turns}
        # A corner in line with a side lies on it where the side's ends are not on one hand of the corner. Where a side
        # has fallen, the corner at which it begins lies on the next side: there is no need to look for that.
        if any([signs[pair] == 0 and sign_at(self.dots[pair], spot) <= 0 for pair in signs]):
            return False
        return not self._bends(signs) and not self._crosses(signs)

    def _bends(self, signs):
        """Whether some corner does not turn as it must, where the turns have these signs."""
        for side in all_corners(self._letter):
            ring, number = next_corner(self._letter, side)
            after = next_corner(self._letter, (ring, number))
            if not turns_as_it_must(self._letter[ring][number], signs[(side, after)]):
                return True
        return False

    def _crosses(self, signs):
        """Whether some sides cross, where the turns have these signs, and no corner lies on a side."""
        for side, other in signs:
            end = next_corner(self._letter, side)
            other_end = next_corner(self._letter, other)
            # Sides with a common end have no other place in common where no corner lies on a side.
            if (side, other_end) in signs and signs[(side, other)] * signs[(side, other_end)] < 0:
                if signs[(other, side)] * signs[(other, end)] < 0:
                    return True
        return False
