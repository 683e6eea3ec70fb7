"""KINDS of changes, told by grammars, and which TABLES tell the same for all of a KIND, point [17]."""

from everychange.alike import both_lots, space_over_stages
from everychange.changes import has_low_powers, is_change, product_poly
from everychange.engine import series_run
from everychange.errors import CanNot, Unfit
from everychange.lots import lot_sheet, lots
from everychange.plain import check_place, is_count, is_tuple
from everychange.polys import poly_integral, poly_through, poly_value
from everychange.ratios import ONE, ZERO, fraction, minus, over, plus, whole, whole_row
from everychange.sorttrees import SortTrees
from everychange.spans import dot_of
from everychange.tables import sheet_of, spread
from everychange.trees import number_of, trees_of, trees_within
from everychange.weights import weight

MOST_SERIES = 60
CLOCK = (0, ((0, (0, 0)),))
OF_TIME = (None, (None, 0))


def _is_bound(thing):
    return thing is None or is_count(thing)


def _is_way(thing, many):
    if not is_tuple(thing, 2) or not _is_bound(thing[0]) or not is_tuple(thing[1], many):
        return False
    return all([_is_bound(cap) for cap in thing[1]])


def is_kind(thing):
    """Whether thing is a KIND."""
    if not isinstance(thing, tuple) or not thing:
        return False
    for item in thing:
        if not is_tuple(item, 2) or not is_count(item[0]) or not isinstance(item[1], tuple):
            return False
        if not all([_is_way(way, len(thing)) for way in item[1]]):
            return False
    return True


def _check_parts(kind, matrices):
    for part, _ in kind:
        check_place(part, len(matrices))


def _fit_way(counts, way):
    """Whether so many factors of each sort fit the WAY."""
    most, caps = way
    if most is not None and sum(counts) > most:
        return False
    return all([cap is None or count <= cap for count, cap in zip(counts, caps)])


def fits(kind, change, sorts):
    """Whether the CHANGE is of the KIND by sorts."""
    _check_parts(kind, change)
    for sort in sorts:
        check_place(sort, len(kind))
    if len(sorts) != len(change[0]):
        raise Unfit()
    return all([_fits_cell(kind, part == kind[sort][0], sort, poly, sorts)
                for part, polys in enumerate(change) for poly, sort in zip(polys, sorts)])


def _fits_cell(kind, is_own, sort, poly, sorts):
    """Whether the POLY may move a cell of this sort; is_own tells if it is that of the sort's part."""
    for powers, _ in poly:
        counts = [sum([power for power, other in zip(powers, sorts) if other == own]) for own in range(len(kind))]
        if not is_own or not any([_fit_way(counts, way) for way in kind[sort][1]]):
            return False
    return True


def kind_rows(kind, sheet):
    """For each sort the SPACE of the rows of its TREES."""
    _check_parts(kind, sheet[0])
    parting = lots(sheet)
    trees = SortTrees(kind, lot_sheet(sheet, parting)[0])
    while trees.further(None):
        pass
    return [space_over_stages(parting, trees.rows_of(sort)) for sort in range(len(kind))]


def _unlike_tree(kind, table, other, most):
    """The TREES to the first one, with the fewest places, at most most, whose weights are unlike; None without."""
    _check_parts(kind, table[0])
    _, matrices, apart = both_lots(table, other)
    weighed = [whole_row(row) for row in apart]
    trees = SortTrees(kind, matrices)
    while trees.further(most):
        sort, _, row, _ = trees.found[-1]
        if dot_of(weighed[kind[sort][0]], row) != 0:
            return trees.found
    return None


def alike_on(kind, table, other):
    """Whether they tell the same FOR ALL CHANGES OF THE KIND."""
    return _unlike_tree(kind, table, other, None) is None


def _ladder_of(kind, found, many):
    """(change, sorts): the ladder of many parts with a cell for the last TREE found and for each one it is made of."""
    needed = set([len(found) - 1])
    cells = []
    for node in range(len(found) - 1, -1, -1):
        if node in needed:
            cells.append(node)
            for branch in found[node][3]:
                needed.add(branch)
    cells.reverse()
    sorts = tuple([found[node][0] for node in cells])
    polys = [product_poly([cells.index(own) for own in found[node][3]], len(cells)) for node in cells]
    change = [tuple([poly if kind[sort][0] == part else () for poly, sort in zip(polys, sorts)])
              for part in range(many)]
    return tuple(change), sorts


def parting_on(kind, table, other):
    """(change, sorts, power): a CHANGE of the KIND by sorts for which both, from zeros, part at this power."""
    found = _unlike_tree(kind, table, other, None)
    if found is None:
        raise CanNot()
    change, sorts = _ladder_of(kind, found, len(table[0]))
    return (change, sorts, found[-1][1])


def is_parting_on(kind, table, other, thing):
    """Whether thing is such a triple."""
    _check_parts(kind, table[0])
    if not is_tuple(thing, 3) or not is_change(thing[0]) or not isinstance(thing[1], tuple):
        return False
    change, sorts, power = thing
    if len(change) != len(table[0]) or len(sorts) != len(change[0]) or not has_low_powers(change):
        return False
    if not all([is_count(sort) and sort < len(kind) for sort in sorts]) or not fits(kind, change, sorts):
        return False
    if not is_count(power) or power > MOST_SERIES:
        return False
    start = (ZERO,) * len(sorts)
    first, second = [series_run(sheet_of(own), change, start, power)[0] for own in (table, other)]
    return any([x[power] != y[power] for x, y in zip(first, second)])


def power_on(kind, table, other, most):
    """The least number of places, at most most, of a TREE of a sort with unlike weights; None without."""
    found = _unlike_tree(kind, table, other, most)
    return None if found is None else found[-1][1]


def order_on(kind, table, most):
    """The greatest n, at most most, such that TREES of sorts with at most n places weigh 1 divided by their number."""
    power = power_on(kind, table, spread(_flow_table(most), len(table[0])), most)
    return most if power is None else power - 1


def _flow_table(many):
    """A TABLE of one part and many stages by which TREES of at most so many places weigh 1 divided by their number."""
    # It is exact where the rates are a polynomial of the degree many - 1 in the step.
    places = [fraction(at, many) for at in range(many)]
    worths = [[whole(int(at == own)) for at in range(many)] for own in range(many)]
    totals = [poly_integral(poly_through(places, row)) for row in worths]
    matrix = tuple([tuple([poly_value(total, place) for total in totals]) for place in places])
    return ((matrix,), (tuple([poly_value(total, ONE) for total in totals]),))


def _sorts_of(kind, tree):
    """The sorts of which the TREE is."""
    choices = [_sorts_of(kind, branch) for branch in tree[1]]
    ways_to_count = {(0,) * len(kind): True}
    for sorts in choices:
        further = {}
        for counts in ways_to_count:
            for sort in sorts:
                further[counts[:sort] + (counts[sort] + 1,) + counts[sort + 1:]] = True
        ways_to_count = further
    return [sort for sort, (part, ways) in enumerate(kind)
            if part == tree[0] and any([_fit_way(own, way) for own in ways_to_count for way in ways])]


def _with_parts(tree, parts):
    """The TREE with parts[part] in the place of each part."""
    return (parts[tree[0]], tuple([_with_parts(branch, parts) for branch in tree[1]]))


def kind_trees(kind, sort, places):
    """The ascending list of the TREES of this sort with so many places."""
    check_place(sort, len(kind))
    parts = sorted(set([part for part, ways in kind]))
    trees = [_with_parts(tree, parts) for tree in trees_of(len(parts), places)]
    return [tree for tree in trees if sort in _sorts_of(kind, tree)]


def _kind_with(parts, most):
    return tuple([(part, ((most, (None,) * parts),)) for part in range(parts)])


def all_kind(parts):
    """The KIND with a SORT for each part, to which all changes belong."""
    return _kind_with(parts, None)


def degree_kind(parts, degree):
    """The KIND with a SORT for each part, to which all changes of this degree belong."""
    return _kind_with(parts, degree)


def time_kind():
    """The KIND of y' = g(t)."""
    return (CLOCK, (0, (OF_TIME,)))


def driven_kind():
    """The KIND of y' = L y + g(t)."""
    return (CLOCK, (0, (OF_TIME, (1, (0, 1)))))


def turning_kind():
    """The KIND of y' = L(t) y + g(t)."""
    return (CLOCK, (0, ((None, (None, 1)),)))


def second_kind():
    """The KIND of y'' = g(y)."""
    return ((0, ((1, (0, 1)),)), (1, ((None, (None, 0)),)))


def _symmetry(tree):
    """In how many ways equal branches of the TREE can change places."""
    ways = 1
    for branch in tree[1]:
        ways = ways * _symmetry(branch)
    for at in range(len(tree[1])):
        # Equal branches stand side by side: the first, the second .. of them.
        ways = ways * (tree[1][:at + 1].count(tree[1][at]))
    return ways


def _one_cell_misses(table, places):
    """Whether changes of one cell tell weights of TREES of so many places from those of the flow."""
    totals = {}
    for tree in trees_of(len(table[0]), places):
        # In one cell it only counts which parts have how many branches.
        key = tuple(sorted([(part, len(branches)) for part, branches in trees_within(tree)]))
        share = over(minus(weight(table, tree), (1, number_of(tree))), whole(_symmetry(tree)))
        totals[key] = plus(totals.get(key, ZERO), share)
    return any([total[0] for total in totals.values()])


def one_cell_order(table, most):
    """The greatest n, at most most, such that for all changes of one cell table is right to the power n of the step."""
    for places in range(1, most + 1):
        if _one_cell_misses(table, places):
            return places - 1
    return most
