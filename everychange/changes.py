"""POLYS of many cells, CHANGES, and what they keep, point [7]."""

from everychange.errors import NoPlace, Unfit
from everychange.plain import check_place, frozen, is_ascending, is_count, is_tuple
from everychange.ratios import ONE, ZERO, is_fraction, plus, power_of, times
from everychange.trees import unlike_trees

MOST_POWER = 24


def _is_term(thing, many):
    """Whether thing is a pair (powers, FRACTION other than 0)."""
    if not is_tuple(thing, 2) or not is_tuple(thing[0], many):
        return False
    return all([is_count(power) for power in thing[0]]) and is_fraction(thing[1]) and thing[1] != ZERO


def is_poly(thing, many):
    """Whether thing is a POLY of many cells."""
    if not isinstance(thing, tuple) or not all([_is_term(item, many) for item in thing]):
        return False
    return is_ascending([powers for powers, x in thing])


def is_change(thing):
    """Whether thing is a CHANGE."""
    if not isinstance(thing, tuple) or not thing or not isinstance(thing[0], tuple) or not thing[0]:
        return False
    cells = len(thing[0])
    return all([is_tuple(part, cells) and all([is_poly(poly, cells) for poly in part]) for part in thing])


def _poly_of(sums):
    """The POLY with these FRACTIONS, a dict from powers."""
    return tuple([(powers, sums[powers]) for powers in sorted(sums) if sums[powers][0]])


def _added(sums, powers, x):
    sums[powers] = plus(sums.get(powers, ZERO), x)


def poly_at(poly, start):
    """The value of poly with these FRACTIONS for its cells."""
    worth = ZERO
    for powers, x in poly:
        term = x
        for power, cell in zip(powers, start):
            if power:
                term = times(term, power_of(cell, power))
        worth = plus(worth, term)
    return worth


def sum_of_polys(polys):
    """The POLY of the sum of all of them."""
    sums = {}
    for poly in polys:
        for powers, x in poly:
            _added(sums, tuple(powers), x)
    return _poly_of(sums)


def plus_polys(poly, other):
    """The POLY of the sum."""
    return sum_of_polys([poly, other])


def times_polys(poly, other):
    """The POLY of the product."""
    sums = {}
    for powers, x in poly:
        for more, y in other:
            _added(sums, tuple([a + b for a, b in zip(powers, more)]), times(x, y))
    return _poly_of(sums)


def scaled_poly(poly, x):
    """The POLY of x times the value."""
    if x[0] == 0:
        return ()
    return tuple([(tuple(powers), times(x, y)) for powers, y in poly])


def slope_poly(poly, cell):
    """The POLY that is the derivative by this cell."""
    if cell < 0 or poly and cell >= len(poly[0][0]):
        raise NoPlace(cell)
    sums = {}
    for powers, x in poly:
        if powers[cell]:
            less = tuple([power - (at == cell) for at, power in enumerate(powers)])
            _added(sums, less, times(x, (powers[cell], 1)))
    return _poly_of(sums)


def part_of(change, part):
    """The POLYS by which this part moves the cells."""
    check_place(part, len(change))
    return change[part]


def rates_by(polys, start):
    """The values of these POLYS, as a row."""
    return tuple([poly_at(poly, start) for poly in polys])


def part_rates(change, part, start):
    """The rates by which this part moves the cells."""
    return rates_by(part_of(change, part), start)


def whole_rates(change, start):
    """The sums of the rates over the parts."""
    return rates_by(whole_change(change)[0], start)


def whole_change(change):
    """The CHANGE of one part that moves the cells as all parts together do."""
    return (tuple([sum_of_polys(polys) for polys in zip(*change)]),)


def degree_of(change):
    """The greatest degree of the POLYS."""
    return max([sum(powers) for part in change for poly in part for powers, x in poly], default=0)


def has_low_powers(change):
    """Whether no power in the POLYS is greater than those that a CHANGE that is passed in has."""
    return all([max(powers) <= MOST_POWER for part in change for poly in part for powers, x in poly])


def is_ladder(change):
    """Whether each rate of each cell hangs on earlier cells alone."""
    return not any([any(powers[cell:]) for part in change for cell, poly in enumerate(part) for powers, x in poly])


def _is_still(polys, poly):
    """Whether these rates of the cells never change the value of poly."""
    return sum_of_polys([times_polys(slope_poly(poly, cell), rate) for cell, rate in enumerate(polys)]) == ()


def is_kept(change, poly):
    """Whether all parts together keep the value of poly."""
    return _is_still(whole_change(change)[0], poly)


def is_kept_by(change, part, poly):
    """Whether this part alone keeps the value of poly."""
    return _is_still(part_of(change, part), poly)


def product_poly(places, many):
    """The POLY of the product of the cells at these places, many cells in all."""
    return ((tuple([places.count(cell) for cell in range(many)]), ONE),)


def tree_change(tree, many):
    """The ladder with a cell for each TREE in tree, moved by the product of the cells of its branches."""
    cells = unlike_trees([frozen(tree)])
    if any([part >= many for part, branches in cells]):
        raise Unfit()
    polys = [product_poly([cells.index(branch) for branch in branches], len(cells)) for part, branches in cells]
    return tuple([tuple([poly if own == part else () for poly, (own, _) in zip(polys, cells)])
                  for part in range(many)])
