import unittest
from fractions import Fraction
from math import prod

from everychange.errors import Unfit
from everychange.tables import beside, behind, repeated, rounds, scaled, sheet_of, undone
from everychange.trees import number_of, places_of_tree, trees_of
from everychange.weights import (back_weights, behind_weights, flow_weights, is_weights, misses, root_weights,
                                 scaled_weights, tree_row, weight, weights_of)
from tests.helpers import HALF, ONE, ZERO, Case, pair, ratio
from tests.test_tables import euler, implicit, mid, none, some_table, two

dot = (0, ())
stalk, fork = (0, (dot,)), (0, (dot, dot))
BIG = 10 ** 30
# The four rounds of Runge and Kutta: of order 4, all TREES of five places but some are missed.
third, sixth = (1, 3), (1, 6)
kutta = ((((ZERO,) * 4, (HALF, ZERO, ZERO, ZERO), (ZERO, HALF, ZERO, ZERO), (ZERO, ZERO, ONE, ZERO)),),
         ((sixth, third, third, sixth),))


def plain_row(matrices, tree):
    """The row of a TREE, as [3] says it, with Python's own fractions."""
    stages = range(len(matrices[0]))
    return [prod([sum(ratio(matrices[branch[0]][stage][k]) * plain_row(matrices, branch)[k] for k in stages)
                  for branch in tree[1]], start=Fraction(1)) for stage in stages]


def all_trees(parts, places):
    return [tree for many in range(1, places + 1) for tree in trees_of(parts, many)]


def nothing(weights):
    return tuple((tree, ZERO) for tree, x in weights)


class Weights(Case):

    def test_tree_row(self):
        self.gives((ONE, ONE), tree_row, sheet=mid, tree=dot)
        self.gives((ZERO, HALF), tree_row, sheet=mid, tree=stalk)
        self.gives((ZERO, (1, 4)), tree_row, sheet=sheet_of(mid), tree=fork)
        self.gives((), tree_row, sheet=none, tree=fork)
        self.gives((), tree_row, sheet=(((),), ()), tree=fork)
        for seed in range(12):
            table = some_table(seed, 2, seed % 4)
            for tree in all_trees(2, 4)[::3]:
                row = tuple(pair(x) for x in plain_row(table[0], tree))
                self.same(tree_row(table, tree), row)
                self.same(tree_row((table[0], (table[1], table[1])), tree), row)
                total = sum(ratio(x) * ratio(y) for x, y in zip(table[1][tree[0]], row))
                self.same(weight(table, tree), pair(total))

    def test_weight(self):
        self.gives(HALF, weight, table=mid, tree=stalk)
        self.gives((1, 4), weight, table=mid, tree=fork)
        self.gives(ZERO, weight, table=none, tree=dot)
        self.gives((-2, 3), weight, table=two, tree=(1, ((1, ()),)))
        tall = dot
        for _ in range(39):
            tall = (0, (tall,))
        self.gives((1, 2 ** 39), weight, table=implicit, tree=tall)
        self.gives((1, 2 ** 39), weight, table=implicit, tree=(0, (dot,) * 39))

    def test_parts_that_there_are_not(self):
        for function, name in ((tree_row, "sheet"), (weight, "table")):
            self.no_place(1, function, **{name: euler, "tree": (1, ())})
            self.no_place(2, function, **{name: two, "tree": (5, (dot, (0, ((2, ()), (3, ())))))})
            self.no_place(3, function, **{name: two, "tree": (3, ((4, ()),))})
        self.no_place(1, tree_row, sheet=sheet_of(euler), tree=(0, ((1, ()),)))
        self.no_place(1, tree_row, sheet=none, tree=(1, ()))

    def test_weights_of(self):
        self.gives((((0, ()), (2, 1)), ((0, ((0, ()),)), (1, 1))), weights_of, table=repeated(euler, 2), places=2)
        self.gives(tuple((tree, weight(two, tree)) for tree in all_trees(2, 3)), weights_of, table=two, places=3)
        self.gives(nothing(flow_weights(1, 4)), weights_of, table=none, places=4)
        self.assertEqual(len(weights_of(mid, 8)), 200)

    def test_flow_weights(self):
        self.gives(((dot, ONE), (stalk, HALF), (fork, (1, 3)), ((0, (stalk,)), (1, 6))), flow_weights, parts=1, places=3)
        self.gives((((0, ()), ONE), ((1, ()), ONE)), flow_weights, parts=2, places=1)
        for tree, x in flow_weights(2, 4):
            self.same(x, (1, number_of(tree)))

    def test_order_of_weights(self):
        trees = [tree for tree, x in flow_weights(2, 4)]
        self.assertEqual(trees, sorted(trees, key=lambda tree: (places_of_tree(tree), tree)))

    def test_misses(self):
        self.gives(trees_of(1, 3), misses, table=mid, places=3)
        self.gives([], misses, table=mid, places=2)
        self.gives([], misses, table=kutta, places=4)
        self.gives([tree for tree in trees_of(1, 5) if weight(kutta, tree) != (1, number_of(tree))],
                   misses, table=kutta, places=5)
        self.assertTrue(misses(kutta, 5))
        self.gives([dot], misses, table=none, places=1)
        self.gives([(0, ((1, ()),)), (1, ((1, ()),))], misses,
                   table=((((HALF,),), ((ONE,),)), ((ONE,), (ONE,))), places=2)

    def test_is_weights(self):
        good = flow_weights(2, 2)
        self.only_unbent(is_weights, good, parts=2, places=2)
        self.is_one(is_weights, [tuple((tree, (-7, 3)) for tree, x in good)], parts=2, places=2)
        self.is_none(is_weights, [good[:-1], good + good[-1:], good[::-1], (), None, flow_weights(2, 1), flow_weights(1, 2),
                                  flow_weights(2, 3), good[:1] + good[:1] + good[2:],
                                  good[:-1] + ((good[-1][0], (2, 2)),)], parts=2, places=2)
        self.is_one(is_weights, [flow_weights(1, 9)], parts=1, places=9)
        # Far more TREES than these: told at once.
        self.is_none(is_weights, [(), good, flow_weights(1, 3)], parts=3, places=40)


class Behind(Case):

    def tables(self):
        yield from ((mid, implicit, 5), (implicit, mid, 5), (none, mid, 4), (mid, none, 4), (two, two, 3))
        for seed in range(6):
            yield some_table(seed, 1, 1 + seed % 3), some_table(seed + 50, 1, 2), 5
            yield some_table(seed, 2, 2), some_table(seed + 50, 2, seed % 3), 3

    def test_behind(self):
        for table, other, places in self.tables():
            self.same(behind_weights(weights_of(table, places), weights_of(other, places)),
                      weights_of(behind(table, other), places))
        self.gives(weights_of(repeated(euler, 2), 2), behind_weights, weights=weights_of(euler, 2),
                   others=weights_of(euler, 2))
        flow = flow_weights(2, 3)
        self.gives(scaled_weights(flow, (2, 1)), behind_weights, weights=flow, others=flow)

    def test_other_trees(self):
        flow = flow_weights(1, 3)
        for other in (flow_weights(1, 2), flow_weights(1, 4), flow_weights(2, 3), flow_weights(2, 1)):
            self.raises(Unfit, behind_weights, weights=flow, others=other)
            self.raises(Unfit, behind_weights, weights=other, others=flow)

    def test_back(self):
        for table, _, places in self.tables():
            weights = weights_of(table, places)
            back = back_weights(weights)
            self.same(back, weights_of(undone(table), places))
            self.same(behind_weights(weights, back), nothing(weights))
            self.same(behind_weights(back, weights), nothing(weights))
        self.gives(scaled_weights(flow_weights(2, 3), (-1, 1)), back_weights, weights=flow_weights(2, 3))

    def test_scaled(self):
        for table, _, places in self.tables():
            for x in (HALF, ZERO, (-3, 2)):
                self.same(scaled_weights(weights_of(table, places), x), weights_of(scaled(table, x), places))
        self.gives((((0, ()), HALF), (stalk, (1, 8))), scaled_weights, weights=flow_weights(1, 2), x=HALF)

    def test_roots(self):
        for table, _, places in self.tables():
            weights = weights_of(table, places)
            for n in (1, 2, 3):
                self.same(root_weights(weights_of(repeated(table, n), places), n), weights)
                root, done = root_weights(weights, n), nothing(weights)
                for _ in range(n):
                    done = behind_weights(done, root)
                self.same(done, weights)
        self.gives((1, 8), lambda weights, n: root_weights(weights, n)[1][1], weights=flow_weights(1, 2), n=2)
        for n in (1, 7, 40):
            self.gives(scaled_weights(flow_weights(1, 5), (1, n)), root_weights, weights=flow_weights(1, 5), n=n)
            self.gives(nothing(flow_weights(1, 3)), root_weights, weights=nothing(flow_weights(1, 3)), n=n)
        self.assertEqual(root_weights(flow_weights(1, 8), 40), scaled_weights(flow_weights(1, 8), (1, 40)))

    def test_rounds_and_sheets(self):
        sheet = beside(rounds(mid, 2), sheet_of(implicit))
        self.same(tree_row(sheet, fork)[4:], tree_row(implicit, fork))
        self.same(tree_row(sheet, fork)[:2], tree_row(mid, fork))

    def test_big_fractions(self):
        table = scaled(implicit, (BIG, BIG - 1))
        weights = weights_of(scaled(table, (BIG - 1, 7)), 5)
        self.assertTrue(is_weights(1, 5, weights))
        self.same(weights, scaled_weights(weights_of(implicit, 5), (BIG, 7)))
        self.same(behind_weights(weights, back_weights(weights)), nothing(weights))


if __name__ == "__main__":
    unittest.main()
