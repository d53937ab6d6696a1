"""Fonts: masters of one letter, with names."""

from keptform.errors import BadValue, NoMaster, TakenName, TooMany
from keptform.letters import MOST_MASTERS, is_coordinate, is_place, need_drawing, need_letter, needed_corner
from keptform.letters import plain_drawing, plain_letter
from keptform.rooms import holds_throughout, largest_rooms
from keptform.values import is_row

SIGNS = "abcdefghijklmnopqrstuvwxyz"
LONGEST_NAME = 8
MOST_NAMES = 5


def _is_name(value):
    """Whether value may be the name of a master."""
    if not isinstance(value, str) or not 1 <= len(value) <= LONGEST_NAME:
        return False
    return all([sign in SIGNS for sign in value])


class Font:
    """A letter and up to 5 masters of it, which have names, in the sequence in which they were added."""

    def __init__(self, letter):
        need_letter(letter, 0)
        self._letter = plain_letter(letter)
        self._names = []
        self._drawings = {}

    def __len__(self):
        return len(self._names)

    def __contains__(self, name):
        return isinstance(name, str) and name in self._drawings

    def __eq__(self, other):
        if not isinstance(other, Font):
            return False
        return self._letter == other._letter and self._names == other._names and self._drawings == other._drawings

    def _need_master(self, name):
        """Refuse what is no name of a master here."""
        if name not in self:
            raise NoMaster(name)

    def letter(self):
        """The letter."""
        return self._letter

    def names(self):
        """The names of the masters, in the sequence in which they were added."""
        return tuple(self._names)

    def drawing(self, name):
        """The master with this name."""
        self._need_master(name)
        return self._drawings[name]

    def add(self, name, drawing):
        """Keep one more master, behind the others."""
        if not _is_name(name):
            raise BadValue(0)
        if name in self:
            raise TakenName(name)
        need_drawing(self._letter, drawing, 1)
        if len(self._names) >= MOST_NAMES:
            raise TooMany()
        self._names.append(name)
        self._drawings[name] = plain_drawing(drawing)

    def take(self, name):
        """Take the master out."""
        self._need_master(name)
        self._names.remove(name)
        del self._drawings[name]

    def move(self, name, corner, place):
        """Move a corner of the master to the place."""
        self._need_master(name)
        ring, number = needed_corner(self._letter, corner, 1)
        if not is_place(place, is_coordinate):
            raise BadValue(2)
        rows = [list(row) for row in self._drawings[name]]
        rows[ring][number] = place
        self._drawings[name] = plain_drawing(rows)

    def is_kept(self, names):
        """Whether the masters with these names are kept."""
        if not is_row(names, 1, MOST_MASTERS) or not all([name in self for name in names]):
            raise BadValue(0)
        if len(set(names)) != len(names):
            raise BadValue(0)
        return holds_throughout(self._letter, [self._drawings[name] for name in names])

    def rooms(self):
        """The largest sets of 1 to 4 masters that are kept, as tuples of names."""
        drawings = [self._drawings[name] for name in self._names]
        rows = largest_rooms(self._letter, drawings)
        return tuple([tuple([self._names[number] for number in row]) for row in rows])

    def copy(self):
        """A font that is the same and changes independently."""
        twin = Font(self._letter)
        for name in self.names():
            twin.add(name, self._drawings[name])
        return twin
