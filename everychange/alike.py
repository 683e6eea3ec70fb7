"""TABLES that tell the same, for all changes or for those of a degree, point [13]."""

from math import comb

from everychange.changes import degree_of, is_change, product_poly
from everychange.engine import is_solution, told_from
from everychange.errors import Unfit
from everychange.lots import laid_out, lot_sheet, lots
from everychange.plain import is_tuple
from everychange.ratios import ONE, ZERO, fraction, is_row, minus, space_of, whole, whole_row
from everychange.spans import Span, dot_of, products_of, sums_by, whole_matrix
from everychange.tables import beside, sheet_of
from everychange.unlike import change_through, rates_and_points


def both_lots(table, other):
    """(parting, matrices, apart): the lots of both, their matrices, and the rows by which table weighs more there."""
    if len(table[0]) != len(other[0]):
        raise Unfit()
    both = beside(sheet_of(table), sheet_of(other))
    parting = lots(both)
    matrices, (own, others) = lot_sheet(both, parting)
    apart = tuple([tuple([minus(x, y) for x, y in zip(row, line)]) for row, line in zip(own, others)])
    return parting, matrices, apart


def is_alike(table, other):
    """Whether they tell the same FOR ALL CHANGES."""
    return not unlike_sums(table, other)


def unlike_sums(table, other):
    """The ascending list of (part, place of a lot of both, by how much table weighs more there)."""
    _, _, apart = both_lots(table, other)
    return [(part, place, x) for part, row in enumerate(apart) for place, x in enumerate(row) if x[0]]


def one_cell_paper(table, other):
    """A ONE CELL PAPER; None if they tell the same."""
    if is_alike(table, other):
        return None
    parting, matrices, apart = both_lots(table, other)
    rates, points = rates_and_points(matrices, [[x for row in apart for x in row]])
    return (change_through(points, rates), tuple([(x,) for x in laid_out(parting, points)]))


def is_one_cell_paper(table, other, thing):
    """Whether thing is a ONE CELL PAPER."""
    parting, _, _ = both_lots(table, other)
    if not is_tuple(thing, 2) or not is_change(thing[0]) or not is_tuple(thing[1], sum([len(lot) for lot in parting])):
        return False
    change, points = thing
    if len(change) != len(table[0]) or len(change[0]) != 1 or degree_of(change) >= len(parting):
        return False
    if not all([is_row(point, 1) for point in points]):
        return False
    if not all([points[stage] == points[lot[0]] for lot in parting for stage in lot]):
        return False
    start, own = (ZERO,), len(table[0][0])
    told = []
    for sheet, mine in ((sheet_of(table), points[:own]), (sheet_of(other), points[own:])):
        if not is_solution(sheet, change, start, ONE, mine):
            return False
        told.extend(told_from(sheet, change, start, ONE, mine))
    return told[0] != told[1]


def _products(rows, degree, size):
    """Pairs (places, row): what so many of rows, or fewer, come to, as far as none is a sum of others before."""
    ones, span = [1] * size, Span()
    newest = [((), ones)] if span.takes(ones) else []
    found = list(newest)
    for _ in range(degree):
        further = []
        for places, numbers in newest:
            for place, row in enumerate(rows):
                longer = products_of(numbers, row)
                if span.takes(longer):
                    further.append((places + (place,), longer))
        found, newest = found + further, further
    return found


def _degree_cells(matrices, degree, weighed):
    """(cells, rows, products): pairs (part, places) of cells whose rows make the degree space, and these _products.

    The cell is moved by this part at the rate of the product of the cells at these places, all of them earlier ones.
    As soon as one of the products is weighed, by a row for each part, it is all that is asked for.
    """
    size = len(matrices[0])
    cells, rows, span = [], [], Span()
    span.takes([1] * size)
    whole_matrices = [whole_matrix(matrix) for matrix in matrices]
    while True:
        products = _products(rows, degree, size)
        if _asks_weighed(products, weighed):
            return cells, rows, products
        before = len(cells)
        for part, matrix in enumerate(whole_matrices):
            for places, numbers in products:
                row = sums_by(matrix, numbers)
                if span.takes(row):
                    cells.append((part, places))
                    rows.append(row)
        if len(cells) == before:
            return cells, rows, products


def _asks_weighed(products, weighed):
    """The pairs (part, places) of products whose weight for the part is not 0."""
    return [(part, places) for places, numbers in products
            for part, row in enumerate(weighed) if dot_of(row, numbers) != 0]


def space_over_stages(parting, rows):
    """The SPACE over the stages of rows of whole numbers over the lots."""
    space = space_of([[whole(x) for x in row] for row in rows], len(parting))
    return tuple([laid_out(parting, row) for row in space])


def degree_space(sheet, degree):
    """The degree space of the SHEET."""
    parting = lots(sheet)
    matrices, _ = lot_sheet(sheet, parting)
    _, rows, _ = _degree_cells(matrices, degree, ())
    return space_over_stages(parting, [[1] * len(parting)] + rows)


def told_space(sheet, degree):
    """The told space of the SHEET."""
    parting = lots(sheet)
    matrices, _ = lot_sheet(sheet, parting)
    _, _, products = _degree_cells(matrices, degree, ())
    return space_over_stages(parting, [numbers for places, numbers in products])


def _told_unlike(table, other, degree):
    """(cells, asks): the _degree_cells of both, and pairs (part, places) that both weigh unlike."""
    _, matrices, apart = both_lots(table, other)
    weighed = [whole_row(row) for row in apart]
    cells, _, products = _degree_cells(matrices, degree, weighed)
    return cells, _asks_weighed(products, weighed)


def alike_to(table, other, degree):
    """Whether they tell the same for all changes of this degree."""
    _, asks = _told_unlike(table, other, degree)
    return not asks


def least_degree(table, other):
    """The least degree for which they do not tell the same; None if they tell the same FOR ALL CHANGES."""
    if is_alike(table, other):
        return None
    degree = 0
    while alike_to(table, other, degree):
        degree += 1
    return degree


def degree_ladder(table, other):
    """A ladder of least_degree by which, from zeros with the step 1, both tell unlike; None if they tell the same."""
    degree = least_degree(table, other)
    if degree is None:
        return None
    cells, asks = _told_unlike(table, other, degree)
    moved = cells + asks[:1]
    return tuple([tuple([product_poly(places, len(moved)) if own == part else () for own, places in moved])
                  for part in range(len(table[0]))])


def sharp_pair(many):
    """Explicit TABLES of many stages that tell the same for all changes of the degree many - 2, but not of many - 1."""
    # All stages lie on the line through the first ask, evenly: their (many - 1)th difference sees no lesser degree.
    matrix = tuple([(whole(stage),) + (ZERO,) * (many - 1) for stage in range(many)])
    counts = [comb(many - 1, stage) for stage in range(many)]
    total = sum(counts) // 2
    rows = [tuple([fraction(count * ((stage + side) & 1), total) for stage, count in enumerate(counts)])
            for side in (0, 1)]
    return (((matrix,), (rows[0],)), ((matrix,), (rows[1],)))
