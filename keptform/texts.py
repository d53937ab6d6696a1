"""Texts of letters and masters."""

from keptform.errors import BadText
from keptform.letters import FARTHEST, MOST_MASTERS, is_letter, need_letter, need_masters, plain_letter

RING = "ring"
MASTER = "master"
PLACES = "places"


def _places_line(ring):
    """The words of the line of a ring's places."""
    return [PLACES] + [str(worth) for place in ring for worth in place]


def printed(letter, masters):
    """The text of the letter and the masters."""
    need_letter(letter, 0)
    need_masters(letter, masters, 1)
    lines = [[RING] + list(ring) for ring in letter]
    for drawing in masters:
        lines.append([MASTER])
        lines.extend([_places_line(ring) for ring in drawing])
    return "".join([" ".join(words) + "\n" for words in lines])


def _lines_of(text):
    """The lines of a text."""
    lines = text.split("\n")
    if lines[-1] == "":
        return lines[:-1]
    return lines


def _first_rings(lines):
    """The rings of the lines, up to the first line with which they are no letter."""
    rings = []
    for line in lines:
        words = line.split(" ")
        if words[0] != RING or not is_letter(rings + [words[1:]]):
            break
        rings.append(words[1:])
    return plain_letter(rings)


def _places_of(line, many):
    """The so many places of a line of places, or None if it is no such line."""
    # A number has only one right form: that in which it is printed.
    worths = {str(worth): worth for worth in range(-FARTHEST, FARTHEST + 1)}
    words = line.split(" ")
    numbers = [worths[word] for word in words[1:] if word in worths]
    if words[0] != PLACES or len(words) != 1 + 2 * many or len(numbers) != 2 * many:
        return None
    return tuple(zip(numbers[::2], numbers[1::2]))


def _drawing_from(letter, lines, start):
    """The drawing whose lines begin with this one."""
    if lines[start] != MASTER:
        raise BadText(start)
    rows = []
    for at, ring in enumerate(letter, start=start + 1):
        if at == len(lines):
            raise BadText(at)
        row = _places_of(lines[at], len(ring))
        if row is None:
            raise BadText(at)
        rows.append(row)
    return tuple(rows)


def parse(text):
    """The pair (letter, masters) of a text."""
    if not isinstance(text, str):
        raise BadText(0)
    lines = _lines_of(text)
    letter = _first_rings(lines)
    at = len(letter)
    if at == 0 or at == len(lines):
        raise BadText(at)
    masters = []
    while at < len(lines):
        if len(masters) == MOST_MASTERS:
            raise BadText(at)
        masters.append(_drawing_from(letter, lines, at))
        at += 1 + len(letter)
    return (letter, tuple(masters))
