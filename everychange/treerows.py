"""Rows of TREES over the stages, one number of places after another, behind leastpower.py.

Rows are lists of whole numbers: each is the row of a TREE times some number other than 0. TREES are kept as their
branches, for their row does not hang on the part of the root.
"""

from everychange.ratios import ONE
from everychange.spans import Span, products_of, sums_by, whole_matrix
from everychange.tables import beside, hung_on


def _with_branch(branches, branch):
    return tuple(sorted(branches + (branch,)))


def how_many_hang(matrices):
    """How many stages hang on some stage: from 2 places on the rows of TREES have 0 at all others."""
    return len([stage for stage, others in enumerate(hung_on(matrices)) if others])


class TreeRows:
    """TREES of 1, 2, .. places, as many of each as make the rows of all of them.

    Behind the stages the rows have one more place, for the flow of all parts together: places divided by number.
    """

    def __init__(self, matrices):
        self.most = how_many_hang(matrices) + 1
        flow = ((((ONE,),),) * len(matrices), ())
        self.matrices = [whole_matrix(matrix) for matrix in beside((matrices, ()), flow)[0]]
        self.trees = [[], [([1] * len(self.matrices[0]), ())]]
        self.branches = [[]]

    def newest(self):
        """Pairs (row, branches) of the TREES of the greatest number of places that is told."""
        return self.trees[-1]

    def further(self):
        """Tells TREES with one place more."""
        places = len(self.trees)
        self.branches.append(self.new_branches(places - 1))
        self.trees.append(self.new_trees(places))

    def new_branches(self, places):
        """Pairs (row, branch) of branches with so many places, as far as none is a sum of others before."""
        found, span = [], Span()
        for part, matrix in enumerate(self.matrices):
            for numbers, branches in self.trees[places]:
                row = sums_by(matrix, numbers)
                # The flow brings a TREE of so many places divided by them.
                row = [x * places for x in row[:-1]] + row[-1:]
                if span.takes(row):
                    found.append((row, (part, branches)))
        return found

    def new_trees(self, places):
        """Pairs (row, branches) of TREES with so many places: with a branch more than one of fewer places."""
        found, span = [], Span()
        for own in range(1, places):
            for row, branch in self.branches[own]:
                for numbers, branches in self.trees[places - own]:
                    if len(found) == self.most:
                        return found
                    longer = products_of(numbers, row)
                    if span.takes(longer):
                        found.append((longer, _with_branch(branches, branch)))
        return found


def first_trees(matrices, most):
    """Triples (places, row, branches), ascending, to most places, that make all rows of at most so many places."""
    size = len(matrices[0])
    matrices = [whole_matrix(matrix) for matrix in matrices]
    span, found, waiting, newest = Span(), [], [], (1, [1] * size, ())
    while newest is not None and newest[0] <= most:
        places, row, branches = newest
        if span.takes(row):
            found.append(newest)
            waiting.extend(_waiting_with(found, len(matrices)))
        newest = None
        if waiting and len(found) < size:
            following = min(waiting)
            waiting.remove(following)
            newest = _grown(matrices, found, following)
    return found


def _waiting_with(found, parts):
    """(places, tree, part, branch) for each TREE that has the newest one as a branch, or is it with a branch more."""
    newest = len(found) - 1
    pairs = [(newest, at) for at in range(newest + 1)] + [(at, newest) for at in range(newest)]
    return [(found[tree][0] + found[branch][0], tree, part, branch) for tree, branch in pairs for part in range(parts)]


def _grown(matrices, found, grafted):
    """The TREE found at the place tree with the one at the place branch, of this part, as a branch more."""
    places, tree, part, branch = grafted
    _, numbers, branches = found[tree]
    _, others, inner = found[branch]
    return (places, products_of(numbers, sums_by(matrices[part], others)), _with_branch(branches, (part, inner)))
