import itertools
import random
import unittest
from fractions import Fraction

from everychange.changes import (degree_of, is_change, is_kept, is_kept_by, is_ladder, is_poly, part_rates, plus_polys,
                                 poly_at, scaled_poly, slope_poly, times_polys, tree_change, whole_change, whole_rates)
from everychange.errors import Unfit
from tests.helpers import HALF, ONE, ZERO, Case, pair, ratio

BIG = 10 ** 30
unit, half, less = ONE, HALF, (-1, 1)
spring = (((((0, 1), unit),), ()), ((), (((1, 0), unit),)))
apart = (((0, 2), less), ((2, 0), unit))
square = (((((2,), unit),),),)
leaf = (0, ())


def poly_of(sums):
    """The POLY with these Fractions, a dict."""
    return tuple((powers, pair(x)) for powers, x in sorted(sums.items()) if x)


def sums_of(poly):
    return {powers: ratio(x) for powers, x in poly}


def some_poly(seed, cells, pairs=4, top=3):
    source = random.Random(seed)
    sums = {}
    for _ in range(pairs):
        powers = tuple(source.randint(0, top) for _ in range(cells))
        sums[powers] = Fraction(source.randint(-3, 3), source.randint(1, 3))
    return poly_of(sums)


def some_change(seed, parts, cells, pairs=2, top=2):
    return tuple(tuple(some_poly(seed * 100 + part * 10 + cell, cells, pairs, top) for cell in range(cells))
                 for part in range(parts))


def some_state(seed, cells):
    source = random.Random(seed)
    return tuple(pair(Fraction(source.randint(-4, 4), source.randint(1, 3))) for _ in range(cells))


def value(poly, start):
    total = Fraction(0)
    for powers, x in poly:
        term = ratio(x)
        for power, cell in zip(powers, start):
            term *= ratio(cell) ** power
        total += term
    return total


class Kinds(Case):

    def test_is_poly(self):
        self.is_one(is_poly, [(), (((), half),), (((), (-BIG * BIG, 7)),)], many=0)
        self.is_one(is_poly, [(), (((0,), half),), (((0,), half), ((5,), unit)), (((100,), unit),)], many=1)
        self.is_one(is_poly, [apart, (((0, 0), unit),), (((0, 5), unit), ((1, 0), unit), ((1, 1), less))], many=2)
        self.is_none(is_poly, [apart], many=1)
        self.is_none(is_poly, [apart[::-1], (apart[0], apart[0]), (((0, 2), ZERO),), (((0, 2), (2, 2)),), (((-1, 0), unit),),
                               (((0,), unit),), (((0, 0, 0), unit),), ((0, unit),), (((0, 2), unit, unit),), (((0, 2),),),
                               ((), unit), None, [], "poly", 0], many=2)
        self.only_unbent(is_poly, apart, many=2)

    def test_is_change(self):
        self.is_one(is_change, [spring, square, (((),),), (((), ()),), (((), ()), ((), ())), spring * 9])
        self.is_one(is_change, [((((((0,) * 20), unit),),) + ((),) * 19,)])
        self.is_none(is_change, [(), ((),), ((), ()), spring + (((),),), (((), ()), ((),)), spring[0], (square,), None, {},
                                 (((((2, 0), unit),),),), ((apart,),), ((), (((2,), unit),)), "change"])
        self.only_unbent(is_change, spring)

    def test_nested_deep(self):
        deep = ()
        for _ in range(99):
            deep = (deep,)
        self.is_none(is_change, [deep])
        self.is_none(is_poly, [deep, (deep,), ((deep, unit),)], many=1)


class Polys(Case):

    def test_poly_at(self):
        self.gives(ZERO, poly_at, poly=(), start=(half, unit))
        self.gives((3, 4), poly_at, poly=apart, start=(unit, half))
        self.gives(unit, poly_at, poly=(((0, 0), unit),), start=(ZERO, ZERO))
        self.gives((5, 3), poly_at, poly=(((), (5, 3)),), start=())
        for seed in range(20):
            poly, start = some_poly(seed, 3), some_state(seed, 3)
            self.same(poly_at(poly, start), pair(value(poly, start)))
        big = (BIG, BIG - 1)
        self.same(poly_at((((24,), big),), (big,)), pair(ratio(big) ** 25))

    def test_sums_and_products(self):
        polys = [(), (((0, 0), unit),), apart, scaled_poly(apart, less)] + [some_poly(seed, 2) for seed in range(6)]
        for poly, other in itertools.product(polys, polys):
            sums, products = sums_of(poly), {}
            for powers, x in sums_of(other).items():
                sums[powers] = sums.get(powers, 0) + x
            for (powers, x), (more, y) in itertools.product(sums_of(poly).items(), sums_of(other).items()):
                both = tuple(a + b for a, b in zip(powers, more))
                products[both] = products.get(both, 0) + x * y
            self.gives(poly_of(sums), plus_polys, poly=poly, other=other)
            self.gives(poly_of(products), times_polys, poly=poly, other=other)
        self.gives((((), half),), times_polys, poly=(((), half),), other=(((), unit),))

    def test_scaled(self):
        self.gives((((0, 2), (-1, 2)), ((2, 0), half)), scaled_poly, poly=apart, x=half)
        self.gives((), scaled_poly, poly=apart, x=ZERO)
        self.gives((), scaled_poly, poly=(), x=half)

    def test_slopes(self):
        poly = (((0, 0), unit), ((0, 3), half), ((1, 0), unit), ((2, 3), less))
        self.gives((((0, 0), unit), ((1, 3), (-2, 1))), slope_poly, poly=poly, cell=0)
        self.gives((((0, 2), (3, 2)), ((2, 2), (-3, 1))), slope_poly, poly=poly, cell=1)
        for cell in (2, -1, 100):
            self.no_place(cell, slope_poly, poly=poly, cell=cell)
        for cell in (0, 1, 100):
            self.gives((), slope_poly, poly=(), cell=cell)
        self.no_place(-1, slope_poly, poly=(), cell=-1)
        self.no_place(0, slope_poly, poly=(((), unit),), cell=0)


class Changes(Case):

    def test_rates(self):
        start = (unit, (2, 1))
        self.gives(((2, 1), (1, 1)), whole_rates, change=spring, start=start)
        self.gives(((2, 1), ZERO), part_rates, change=spring, part=0, start=start)
        self.gives((ZERO, unit), part_rates, change=spring, part=1, start=start)
        for part in (2, -1):
            self.no_place(part, part_rates, change=spring, part=part, start=start)
        for seed in range(10):
            change, start = some_change(seed, 3, 2), some_state(seed, 2)
            rates = [[value(poly, start) for poly in part] for part in change]
            for part in range(3):
                self.same(part_rates(change, part, start), tuple(pair(x) for x in rates[part]))
            self.same(whole_rates(change, start), tuple(pair(sum(xs)) for xs in zip(*rates)))

    def test_whole_change(self):
        self.gives(((spring[0][0], spring[1][1]),), whole_change, change=spring)
        self.gives(square, whole_change, change=square)
        self.gives((((),),), whole_change, change=(square[0], ((((2,), less),),)))
        for seed in range(10):
            change, start = some_change(seed, 3, 2), some_state(seed, 2)
            whole = whole_change(change)
            self.assertTrue(is_change(whole) and len(whole) == 1)
            self.same(whole_rates(whole, start), whole_rates(change, start))

    def test_degree_of(self):
        self.gives(1, degree_of, change=spring)
        self.gives(2, degree_of, change=square)
        self.gives(0, degree_of, change=(((), ()), ((), ())))
        self.gives(0, degree_of, change=(((((0,), half),),),))
        self.gives(7, degree_of, change=(((), (((3, 4), unit), ((4, 0), unit))),))

    def test_is_ladder(self):
        first = (((0, 0), unit),)
        for change, worth in ((spring, False), (square, False), ((((),),), True), (((first, (((3, 0), unit),)),), True),
                              (((first, (((3, 1), unit),)),), False), (((first, ()), ((), (((1, 0), unit),))), True),
                              (((first, ()), ((((1, 0), unit),), ())), False), ((((((0, 1), unit),), ()),), False),
                              (((first, (((0, 1), unit),)),), False)):
            self.gives(worth, is_ladder, change=change)

    def test_is_kept(self):
        self.gives(True, is_kept, change=spring, poly=apart)
        self.gives(False, is_kept_by, change=spring, part=0, poly=apart)
        self.gives(True, is_kept_by, change=spring, part=0, poly=(((0, 5), half),))
        self.gives(False, is_kept_by, change=spring, part=1, poly=(((0, 5), half),))
        self.gives(True, is_kept_by, change=spring, part=1, poly=(((0, 0), half), ((3, 0), half)))
        for poly in ((), (((0, 0), (-7, 3)),)):
            self.gives(True, is_kept, change=spring, poly=poly)
            self.gives(True, is_kept_by, change=spring, part=1, poly=poly)
        for part in (2, -1):
            self.no_place(part, is_kept_by, change=spring, part=part, poly=apart)
            self.no_place(part, is_kept_by, change=spring, part=part, poly=())
        # Two parts that undo one another keep all together, and nothing by themselves.
        against = (square[0], ((((2,), less),),))
        self.gives(True, is_kept, change=against, poly=(((1,), unit),))
        self.gives(False, is_kept_by, change=against, part=1, poly=(((1,), unit),))

    def test_kept_beside_its_slopes(self):
        for seed in range(30):
            poly = some_poly(seed, 2, 3, 2)
            turn = (scaled_poly(slope_poly(poly, 1), less), slope_poly(poly, 0))
            self.assertTrue(is_kept((turn,), poly))
            self.assertTrue(is_kept_by((((), ()), turn), 1, times_polys(poly, poly)))
            change = some_change(seed, 1, 2)
            sums = plus_polys(times_polys(slope_poly(poly, 0), change[0][0]),
                              times_polys(slope_poly(poly, 1), change[0][1]))
            self.assertEqual(is_kept(change, poly), sums == ())


class TreeChanges(Case):

    def test_the_examples(self):
        self.gives((((((0, 0), unit),), (((2, 0), unit),)),), tree_change, tree=(0, (leaf, leaf)), many=1)
        self.gives((((((0,), unit),),),), tree_change, tree=leaf, many=1)

    def test_parts(self):
        tree = (1, (leaf, leaf, (1, ()), (2, (leaf, (1, ())))))
        # Cells: (0, ()), (1, ()), (2, ..), tree.
        still = ()
        rates = ((((0,) * 4, unit),), (((0,) * 4, unit),), (((1, 1, 0, 0), unit),), (((2, 1, 1, 0), unit),))
        self.gives(((rates[0], still, still, still), (still, rates[1], still, rates[3]), (still, still, rates[2], still),
                    (still,) * 4), tree_change, tree=tree, many=4)
        self.raises(Unfit, tree_change, tree=tree, many=2)
        self.raises(Unfit, tree_change, tree=leaf, many=0)
        self.raises(Unfit, tree_change, tree=(0, ((3, ()),)), many=3)

    def test_order_of_cells(self):
        stalk, fork = (0, (leaf,)), (0, (leaf, leaf))
        tall = (0, (stalk,))
        tree = (0, (fork, tall))
        change = tree_change(tree, 1)
        # Fewest places first, then by comparison: leaf, stalk, fork before tall, tree.
        self.assertLess(fork, tall)
        self.same([poly[0][0] for poly in change[0]],
                  [(0,) * 5, (1, 0, 0, 0, 0), (2, 0, 0, 0, 0), (0, 1, 0, 0, 0), (0, 0, 1, 1, 0)])
        self.assertTrue(is_ladder(change))

    def test_equal_branches_as_lists_and_tuples(self):
        stalk = (0, (leaf,))
        tree = (0, (leaf, stalk, (0, (stalk,))))
        self.gives(tree_change(tree, 1), tree_change, tree=tree, many=1)
        mixed = (0, (leaf, [0, [leaf]], (0, [(0, ([0, []],))])))
        self.same(tree_change(mixed, 1), tree_change(tree, 1))

    def test_a_tree_of_40_places(self):
        tall = leaf
        for _ in range(39):
            tall = (0, (tall,))
        change = tree_change(tall, 1)
        self.assertEqual(len(change[0]), 40)
        self.assertTrue(is_ladder(change) and is_change(change))
        self.gives(change, tree_change, tree=tall, many=1)
        self.same(tree_change((0, (leaf,) * 39), 1)[0][1], (((39, 0), unit),))


if __name__ == "__main__":
    unittest.main()
