"""Ladders of which each part, or all parts together, keep a product of TREES, behind kept.py."""

from everychange.changes import product_poly, scaled_poly, sum_of_polys
from everychange.ratios import ONE, ZERO
from everychange.trees import unlike_trees

LESS = (-1, 1)


class Ladder:
    """A ladder that is made cell by cell. Cell 0 stays at 1, then come cells for the branches of TREES, from zeros.

    The moves of a cell are triples (part, FRACTION, places of the cells whose product is its rate).
    """

    def __init__(self, trees):
        self.moves = [[]]
        self.cells = unlike_trees([branch for tree in trees for branch in tree[1]])
        for tree in self.cells:
            self.add_cell([(tree[0], ONE, self.places_of(tree))])

    def places_of(self, tree):
        """The places of the cells of the branches of the TREE."""
        return [self.cells.index(branch) + 1 for branch in tree[1]]

    def add_cell(self, moves):
        """Adds a cell with these moves, and returns its place."""
        self.moves.append(moves)
        return len(self.moves) - 1

    def product_of(self, places):
        """The POLY of the product of the cells at these places."""
        return product_poly(places, len(self.moves))

    def start(self):
        """The STATE with 1 in cell 0, 0 in all others."""
        return (ONE,) + (ZERO,) * (len(self.moves) - 1)

    def rate_by(self, part, moves):
        """The rate at which this part alone moves a cell with these moves."""
        return sum_of_polys([scaled_poly(self.product_of(places), x) for own, x, places in moves if own == part])

    def change_of(self, many):
        """The CHANGE of many parts."""
        return tuple([tuple([self.rate_by(part, moves) for moves in self.moves]) for part in range(many)])


def grafted(trees, many):
    """(change, start, poly): each part keeps the POLY, a round changes it by the defect of the TREES.

    Each TREE has a cell that its part moves at the rate of cell 0 times its branches. What the part makes of the
    product of these cells a last one takes away, one for each part: for two TREES their product is kept crosswise, too.
    """
    ladder = Ladder(trees)
    tops = [ladder.add_cell([(tree[0], ONE, [0] + ladder.places_of(tree))]) for tree in trees]
    lost = [(tree[0], LESS, ladder.places_of(tree) + [top for top in tops if top != own])
            for tree, own in zip(trees, tops)]
    parts = sorted(set([part for part, _, _ in lost]))
    lasts = [ladder.add_cell([move for move in lost if move[0] == part]) for part in parts]
    poly = sum_of_polys([ladder.product_of(tops)] + [ladder.product_of([0, last]) for last in lasts])
    return (ladder.change_of(many), ladder.start(), poly)


def moved_apart(trees, many, is_crosswise):
    """(change, start, poly): all parts together keep the POLY, a round changes it by what the first TREE weighs more.

    The two TREES are alike but for the parts of their roots.
    """
    ladder = Ladder(trees)
    first, second = trees
    tops = [ladder.add_cell([(tree[0], x, ladder.places_of(tree))]) for tree, x in ((first, ONE), (second, LESS))]
    poly = sum_of_polys([ladder.product_of([0, top] if is_crosswise else [top]) for top in tops])
    return (ladder.change_of(many), ladder.start(), poly)
