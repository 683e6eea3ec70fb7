"""The least power of the step at which TABLES part, and short CHANGES that show it, point [14]."""

from everychange.alike import both_lots, space_over_stages
from everychange.changes import has_low_powers, is_change, is_ladder, tree_change
from everychange.engine import run_of
from everychange.lots import laid_out, lot_sheet, lots
from everychange.ratios import ONE, ZERO, applied, space_of, times, whole, whole_row
from everychange.spans import Span, dot_of
from everychange.tables import sheet_of
from everychange.treerows import TreeRows, first_trees, how_many_hang
from everychange.trees import places_of_tree


def place_space(sheet, many):
    """The SPACE of all sums of multiples of rows of many places."""
    parting = lots(sheet)
    matrices, _ = lot_sheet(sheet, parting)
    size, most = len(parting), how_many_hang(matrices)
    spaces, branches = [(), space_of([[ONE] * size], size)], [()]
    for places in range(2, many + 1):
        branches.append(space_of([applied(matrix, row) for matrix in matrices for row in spaces[-1]], size))
        spaces.append(space_of(_grafted_rows(spaces, branches, places, most), size))
    return tuple([laid_out(parting, row) for row in spaces[-1]])


def _grafted_rows(spaces, branches, places, most):
    """At most so many rows that make all products of rows of fewer places and of branches that have the others."""
    span = Span()
    for own in range(1, places):
        for row in branches[own]:
            for other in spaces[places - own]:
                if len(span.lines) < most:
                    span.takes(whole_row([times(x, y) for x, y in zip(row, other)]))
    return [[whole(x) for x in line] for _, line in span.lines]


def space_to(sheet, many):
    """The SPACE of all sums of multiples of rows of 1 to many places."""
    parting = lots(sheet)
    found = first_trees(lot_sheet(sheet, parting)[0], many)
    return space_over_stages(parting, [row for places, row, branches in found])


def parting_power(table, other):
    """The least number of places of a TREE whose weights are unlike in both; None if they tell the same."""
    tree = least_tree(table, other)
    return None if tree is None else places_of_tree(tree)


def least_tree(table, other):
    """A TREE with the fewest places whose weights are unlike in both; None if they tell the same."""
    parting, matrices, apart = both_lots(table, other)
    weighed = [whole_row(row) for row in apart]
    if not any([any(row) for row in weighed]):
        return None
    # Rows of TREES with fewer places than 2 to the power of how many lots there are make all rows.
    for _, numbers, branches in first_trees(matrices, 1 << len(parting)):
        for part, row in enumerate(weighed):
            if dot_of(row, numbers) != 0:
                return (part, branches)
    return None


def order_to(table, most):
    """The greatest p, at most most, such that TREES with at most p places weigh 1 divided by their number."""
    tree = first_miss(table, most)
    return most if tree is None else places_of_tree(tree) - 1


def first_miss(table, most):
    """A TREE with the fewest places that does not weigh 1 divided by its number; None if none has at most most."""
    sheet = sheet_of(table)
    matrices, tells = lot_sheet(sheet, lots(sheet))
    rows = TreeRows(matrices)
    for places in range(1, most + 1):
        if places > 1:
            rows.further()
        for part, row in enumerate(tells[0]):
            # In the last place of each row stands places divided by the number of the TREE.
            weighed = whole_row(row + ((-1, places),))
            for numbers, branches in rows.newest():
                if dot_of(weighed, numbers) != 0:
                    return (part, branches)
    return None


def parting_ladder(table, other):
    """A ladder by which, from zeros with the step 1, both tell unlike; None if they tell the same."""
    tree = least_tree(table, other)
    # The TREE is grown of as many as there are rows before it: it has as many unlike branches, at most.
    return None if tree is None else tree_change(tree, len(table[0]))


def is_parting_ladder(table, other, thing):
    """Whether thing is a ladder with no power above 24 by which both tell unlike so."""
    if not is_change(thing) or len(thing) != len(table[0]) or not is_ladder(thing) or not has_low_powers(thing):
        return False
    start = (ZERO,) * len(thing[0])
    return run_of(sheet_of(table), thing, start, ONE) != run_of(sheet_of(other), thing, start, ONE)
