"""Means, by weights, of vectors that move with a share: where some mean of them is the zero vector."""

from itertools import combinations

from keptform.roots import NOTHING, marks_of, sign_at
from keptform.vectors import cross_product, dot_product, moving_product


class Means:
    """The means of vectors, one for each master, that move with a share."""

    def __init__(self, vectors):
        self.many = len(vectors)
        self.crosses = {}
        self.dots = {}
        for i in range(self.many):
            for j in range(i, self.many):
                self.crosses[(i, j)] = moving_product(cross_product, vectors[i], vectors[j])
                self.dots[(i, j)] = moving_product(dot_product, vectors[i], vectors[j])

    def have_zero(self, share):
        """Whether some mean is the zero vector at this share."""
        # Some mean is, if and only if one of at most three of the vectors is, with all their weights above 0: either
        # one that is zero, or two that are opposite, or three, each of which points between the opposites of the
        # other two.
        signs = {pair: sign_at(self.crosses[pair], share) for pair in self.crosses}
        for pair in signs:
            if signs[pair] == 0 and sign_at(self.dots[pair], share) <= 0:
                return True
        for i, j, k in combinations(range(self.many), 3):
            if signs[(i, j)] != 0 and signs[(i, j)] == signs[(j, k)] and signs[(i, j)] == -signs[(i, k)]:
                return True
        return False

    def marks(self):
        """Ascending shares from 0 to 1, these included, between which it is the same whether some mean is zero."""
        # A product of two vectors that is not 0 throughout changes its sign at its roots only. Where one is 0
        # throughout, the vectors turn from alike to opposite only where one of them is zero.
        return marks_of([self.dots[(i, i)] if i == j else self.crosses[(i, j)] for i, j in self.crosses])

    def have_zero_anywhere(self):
        """Whether some mean is the zero vector at some share."""
        # The shares at which one is are closed spans: if there are any, they contain a mark.
        for mark in self.marks():
            if self.have_zero(mark):
                return True
        return False


def some_mean_is_zero(vectors):
    """Whether some mean of vectors that do not move is the zero vector."""
    return Means([((0, 0), vector) for vector in vectors]).have_zero(NOTHING)
