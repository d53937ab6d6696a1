"""Chains of drawings, each of which is kept with the next one as masters, and levels, which tell how long they are."""

from itertools import combinations

from keptform.errors import BadLevels, BadValue
from keptform.letters import is_row_of_drawings, need_letter
from keptform.rooms import holds_throughout
from keptform.values import is_whole_between

FEWEST_DRAWINGS = 2
MOST_DRAWINGS = 8
GREATEST_LEVEL = 9


def _need_drawings(letter, drawings):
    """Refuse what is no letter and no drawings of it, the first two arguments."""
    need_letter(letter, 0)
    if not is_row_of_drawings(letter, drawings, FEWEST_DRAWINGS, MOST_DRAWINGS):
        raise BadValue(1)


def _pairs(letter, drawings):
    """By each pair of numbers of drawings, ascending, whether the two go together."""
    return {(i, j): holds_throughout(letter, [drawings[i], drawings[j]])
            for i, j in combinations(range(len(drawings)), 2)}


def chain(letter, drawings):
    """The shortest chain from the first drawing to the last one, of these the first, or None if there is none."""
    _need_drawings(letter, drawings)
    together = _pairs(letter, drawings)
    last = len(drawings) - 1
    # By the number of a drawing, what chain would be from there, if there is any.
    shortest = {last: (last,)}
    for number in reversed(range(last)):
        rows = [(number,) + shortest[later] for later in sorted(shortest) if together[(number, later)]]
        if rows:
            # The rows are ascending: of the shortest ones, min takes the first.
            shortest[number] = min(rows, key=len)
    return shortest.get(0)


def levels(letter, drawings):
    """Levels of the drawings, each of which is as great as it can be."""
    _need_drawings(letter, drawings)
    together = _pairs(letter, drawings)
    found = [0]
    for number in range(1, len(drawings)):
        above = [found[earlier] + 1 for earlier in range(number) if together[(earlier, number)]]
        found.append(min([GREATEST_LEVEL] + above))
    return tuple(found)


def _fits(together, value, at):
    """Whether the level at this number is right, if those ahead of it are."""
    level = value[at]
    if not is_whole_between(level, 0, GREATEST_LEVEL):
        return False
    if at == 0:
        return level == 0
    return all([level <= value[earlier] + 1 for earlier in range(at) if together[(earlier, at)]])


def levels_hold(letter, drawings, value):
    """True for levels of the drawings; anything else is refused."""
    _need_drawings(letter, drawings)
    if not isinstance(value, (list, tuple)):
        raise BadLevels(0)
    together = _pairs(letter, drawings)
    shared = min(len(value), len(drawings))
    for at in range(shared):
        if not _fits(together, value, at):
            raise BadLevels(at)
    if len(value) != len(drawings):
        raise BadLevels(shared)
    return True
