"""What rounds keep if the parts keep it, and CHANGES on which they lose it, point [18]."""

from everychange.changes import has_low_powers, is_change, is_kept, is_kept_by, is_poly
from everychange.engine import series_run
from everychange.errors import CanNot, Unfit
from everychange.grafts import grafted, moved_apart
from everychange.least import least_table
from everychange.plain import check_place, frozen, is_count, is_tuple
from everychange.ratios import ZERO, dot, is_row, minus, plus, times, whole_row
from everychange.spans import dot_of
from everychange.tables import sheet_of
from everychange.treerows import first_trees
from everychange.trees import made_tree
from everychange.weights import weight

EACH = "each"
WHOLE = "whole"
CROSSWISE = "crosswise"
MOST_POWER = 300


def _check_way(way, degree, parts):
    if way not in (EACH, WHOLE, CROSSWISE):
        raise CanNot()
    if way == CROSSWISE and (degree != 2 or parts != 2):
        raise Unfit()


def kept_so(change, poly, way):
    """Whether the POLY is kept by this way."""
    _check_way(way, 2, len(change))
    if way == EACH:
        return all([is_kept_by(change, part, poly) for part in range(len(change))])
    if way == CROSSWISE and not all([_is_crosswise(change, powers) for powers, x in poly]):
        return False
    return is_kept(change, poly)


def _is_crosswise(change, powers):
    """Whether these are two unlike cells, once each, one not moved by part 1, the other one not by part 0."""
    cells = [cell for cell, power in enumerate(powers) if power]
    if len(cells) != 2 or sum(powers) != 2:
        return False
    moved = [[len(polys[cell]) > 0 for cell in cells] for polys in change]
    return not moved[1][0] and not moved[0][1] or not moved[1][1] and not moved[0][0]


def array_of(table, part, other):
    """The array of these parts."""
    check_place(part, len(table[0]))
    check_place(other, len(table[0]))
    matrices, weights = table
    stages = range(len(matrices[0]))
    return tuple([tuple([_array_place(matrices, weights, (part, i), (other, j)) for j in stages]) for i in stages])


def _array_place(matrices, weights, first, second):
    """What stands in an array of the parts of two pairs (part, stage), in the row and at the place of their stages."""
    (v, i), (w, j) = first, second
    own, others = weights[v][i], weights[w][j]
    sums = plus(times(own, matrices[w][i][j]), times(others, matrices[v][j][i]))
    return minus(sums, times(own, others))


def defect(table, trees):
    """The product of the weights of the TREES less the weight of each with the others as further branches."""
    trees = frozen(trees)
    worth = (1, 1)
    for tree in trees:
        worth = times(worth, weight(table, tree))
    for at, (part, branches) in enumerate(trees):
        grown = made_tree(part, branches + trees[:at] + trees[at + 1:])
        worth = minus(worth, weight(table, grown))
    return worth


def keeps(table, degree, way):
    """Whether the TABLE keeps the degree by this way."""
    return is_degree_kept(table, degree, way)


def is_degree_kept(table, degree, way):
    """Whether the TABLE keeps the degree by this way."""
    _check_way(way, degree, len(table[0]))
    return has_kept_weights(least_table(table), degree, way)


def has_kept_weights(table, degree, way):
    """Whether the weights and arrays of this TABLE itself show that it keeps the degree by this way."""
    weights, many = table[1], len(table[0])
    if way != EACH and any([row != weights[0] for row in weights]):
        return False
    if degree == 1:
        return True
    if degree == 3:
        return not any([x[0] for row in weights for x in row])
    pairs = [(0, 1)] if way == CROSSWISE else [(part, other) for other in range(many) for part in range(other + 1)]
    return not any([x[0] for part, other in pairs for row in array_of(table, part, other) for x in row])


class Loss:
    """What the least TABLE loses: TREES of it, fewest places first, as many as make all rows.

    All numbers of the TABLE are times one number, and rows are times some numbers: this is as far from 0.
    """

    def __init__(self, table):
        matrices, weights = least_table(table)
        size, many = len(matrices[0]), len(matrices)
        every = [row for matrix in matrices for row in matrix] + list(weights)
        numbers = whole_row([x for row in every for x in row])
        rows = [numbers[at * size:(at + 1) * size] for at in range((size + 1) * many)]
        self.weights = rows[size * many:]
        self.trees = first_trees(matrices, 1 << size)
        # For each part and TREE: (places, the TREE with this part, its row, what the part's matrix makes of it).
        self.grown = []
        for part in range(many):
            matrix = rows[part * size:(part + 1) * size]
            for places, row, branches in self.trees:
                self.grown.append((places, (part, branches), row, [dot_of(line, row) for line in matrix]))

    def apart(self):
        """(power, two TREES alike but for their roots, with unlike weights) of the fewest places; None if none are."""
        for places, row, branches in self.trees:
            sums = [dot_of(weights, row) for weights in self.weights]
            for part, total in enumerate(sums):
                if total != sums[0]:
                    return (places, ((0, branches), (part, branches)))
        return None

    def lots_of(self, degree, way):
        """(power, some of grown) for each two or three TREES to look at, fewest places first."""
        many = len(self.grown)
        lots = [(i, j) for i in range(many) for j in range(i, many)]
        if degree == 3:
            lots = lots + [(i, j, k) for i, j in lots for k in range(j, many)]
        found = [(sum([self.grown[at][0] for at in lot]), lot) for lot in lots]
        grown = [(power, [self.grown[at] for at in lot]) for power, lot in sorted(found)]
        if way == CROSSWISE:
            return [(power, lot) for power, lot in grown if [tree[0] for _, tree, _, _ in lot] == [0, 1]]
        return grown

    def is_lost(self, lot):
        """Whether the defect of these TREES is not 0."""
        total = 1
        for _, tree, row, _ in lot:
            total = total * dot_of(self.weights[tree[0]], row)
        for at, (_, tree, row, _) in enumerate(lot):
            places = [x * y for x, y in zip(self.weights[tree[0]], row)]
            for _, _, _, led in lot[:at] + lot[at + 1:]:
                places = [x * y for x, y in zip(places, led)]
            total = total - sum(places)
        return total != 0

    def graft(self, degree, way):
        """(power, two or three TREES) with a defect other than 0, of the fewest places; None without."""
        for power, lot in self.lots_of(degree, way):
            if self.is_lost(lot):
                return (power, tuple([tree for _, tree, _, _ in lot]))
        return None


def _least_loss(table, degree, way):
    """(power, TREES, whether they are alike but for their roots) of the least power; None if the degree is kept."""
    loss, found = Loss(table), []
    apart = loss.apart() if way != EACH else None
    if apart is not None:
        found.append((apart[0], apart[1], True))
    lost = loss.graft(degree, way) if degree > 1 else None
    if lost is not None:
        found.append((lost[0], lost[1], False))
    return min(found, key=lambda item: item[0]) if found else None


def losing_power(table, degree, way):
    """The losing power; None if the TABLE keeps the degree."""
    _check_way(way, degree, len(table[0]))
    found = _least_loss(table, degree, way)
    return None if found is None else found[0]


def grafted_change(trees, many):
    """(change, start, poly): each part keeps the POLY, a round changes it by the defect of the TREES."""
    return grafted(frozen(trees), many)


def losing_change(table, degree, way):
    """(change, start, poly, power, loss): a round changes the POLY by loss times this power; None if all is kept."""
    _check_way(way, degree, len(table[0]))
    found = _least_loss(table, degree, way)
    if found is None:
        return None
    power, trees, is_apart = found
    if is_apart:
        change, start, poly = moved_apart(trees, len(table[0]), way == CROSSWISE)
        loss = minus(weight(table, trees[0]), weight(table, trees[1]))
    else:
        change, start, poly = grafted(trees, len(table[0]))
        loss = defect(table, trees)
    return (change, start, poly, power, loss)


def is_losing(table, degree, way, thing):
    """Whether thing is (change, start, poly, power) on which a round loses the POLY at this power first."""
    _check_way(way, degree, len(table[0]))
    if not is_tuple(thing, 4) or not is_change(thing[0]) or len(thing[0]) != len(table[0]):
        return False
    change, start, poly, power = thing
    cells = len(change[0])
    if not has_low_powers(change) or not is_row(start, cells) or not is_poly(poly, cells):
        return False
    if max([sum(powers) for powers, x in poly], default=0) > degree or not kept_so(change, poly, way):
        return False
    if not is_count(power) or not 1 <= power <= MOST_POWER:
        return False
    worths = _poly_series(poly, series_run(sheet_of(table), change, start, power)[0])
    return next((at for at in range(1, power + 1) if worths[at][0]), None) == power


def _poly_series(poly, series):
    """The series of the POLY of SERIES."""
    length = len(series[0])
    total = [ZERO] * length
    for powers, x in poly:
        term = [x] + [ZERO] * (length - 1)
        for power, cell in zip(powers, series):
            for _ in range(power):
                term = [dot(term[:at + 1], cell[at::-1]) for at in range(length)]
        total = [plus(y, z) for y, z in zip(total, term)]
    return total
