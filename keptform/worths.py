"""Quadratic forms of weights: sums of worth * w[i] * w[j], kept as dicts of the worths by (i, j), i <= j."""

from itertools import combinations

from keptform.values import lowest
from keptform.vectors import cross_product


def cross_worths(ones, others):
    """The cross product of the mean of the ones and that of the others, which have one vector for each master."""
    worths = {}
    for i in range(len(ones)):
        worths[(i, i)] = cross_product(ones[i], others[i])
        for j in range(i + 1, len(ones)):
            worths[(i, j)] = cross_product(ones[i], others[j]) + cross_product(ones[j], others[i])
    return worths


def added_worths(rows):
    """The sum of forms of the same weights."""
    return {pair: sum([worths[pair] for worths in rows]) for pair in rows[0]}


def negated_worths(worths):
    """The negative of the form."""
    return {pair: -worths[pair] for pair in worths}


def _without(row, chosen, at, last):
    """An equation without the unknown at this place, which the chosen equation has."""
    return [(chosen[at] * worth - row[at] * other) // last for worth, other in zip(row, chosen)]


def _solution(equations):
    """The only solution, as integers over one bottom above 0, or None if there is none or more than one.

    An equation is a list of the factors of the unknowns, and behind them the right side.
    """
    rows = equations
    last = 1
    for at in range(len(rows)):
        having = [number for number, row in enumerate(rows) if number >= at and row[at] != 0]
        if not having:
            return None
        chosen = rows[having[0]]
        rows = rows[:at] + [chosen] + rows[at:having[0]] + rows[having[0] + 1:]
        # Everything in the rows is a determinant of the equations: the divisions leave no rest.
        rows = [row if number == at else _without(row, chosen, at, last) for number, row in enumerate(rows)]
        last = chosen[at]
    sign = 1 if last > 0 else -1
    return [sign * row[-1] for row in rows], sign * last


def _slope(worths, i, j):
    """How much of w[j] is in the derivative of the form by w[i]."""
    if i == j:
        return 2 * worths[(i, i)]
    return worths[(min(i, j), max(i, j))]


def _level_weights(worths, masters):
    """The only weights of these masters at which all derivatives are the same, or None: tops and their bottom."""
    equations = [[_slope(worths, i, j) for j in masters] + [-1, 0] for i in masters]
    return _solution(equations + [[1] * len(masters) + [0, 1]])


def _worth_at(worths, tops):
    """The form with these weights."""
    return sum([worths[(i, j)] * tops[i] * tops[j] for i, j in worths])


def _candidates(worths, many):
    """Weights as (tops, bottom), for some of which the form of so many masters is least."""
    found = []
    for size in range(1, many + 1):
        for masters in combinations(range(many), size):
            level = _level_weights(worths, masters)
            if level is not None and min(level[0][:size]) >= 0:
                tops = [0] * many
                for at, master in enumerate(masters):
                    tops[master] = level[0][at]
                found.append((tops, level[1]))
    return found


def least_worth(worths, many):
    """The least worth of the form in the room of so many masters, a fraction, and weights for which it has it."""
    # Of the weights for which it is least, some have as few above 0 as possible. Among the weights of these masters
    # they are the only ones at which all derivatives are the same: with others, the form would be the same on a line
    # through both, and there it would come to an end at weights with fewer above 0.
    least = None
    for tops, bottom in _candidates(worths, many):
        told = (_worth_at(worths, tops), bottom * bottom)
        if least is None or told[0] * least[0][1] < least[0][0] * told[1]:
            least = (told, [lowest(top, bottom) for top in tops])
    return (lowest(least[0][0], least[0][1]), tuple(least[1]))


def greatest_worth(worths, many):
    """The greatest worth of the form in the room of so many masters, and weights for which it has it."""
    (top, bottom), weights = least_worth(negated_worths(worths), many)
    return ((-top, bottom), weights)
