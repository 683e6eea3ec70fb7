import itertools
import unittest
from fractions import Fraction

from everychange.changes import degree_of, is_change, is_kept, is_kept_by, is_ladder, is_poly, poly_at
from everychange.engine import run_of, series_run
from everychange.errors import CanNot, Unfit
from everychange.kept import (array_of, defect, grafted_change, is_losing, keeps, kept_so, losing_change, losing_power)
from everychange.least import least_table, split_stage
from everychange.tables import repeated, sheet_of, told, undone
from everychange.trees import places_of_tree, trees_of
from everychange.weights import weight
from tests.helpers import HALF, ONE, ZERO, Case, pair, ratio
from tests.test_changes import some_poly
from tests.test_engine import along
from tests.test_tables import euler, implicit, mid, some_table

none, one, half, less = ZERO, ONE, HALF, (-1, 1)
plain, middle, leaf = ((((none,),),), ((one,),)), ((((half,),),), ((one,),)), (0, ())
turn, size = (((((0, 1), less),), (((1, 0), one),)),), (((0, 2), one), ((2, 0), one))
# Gauss's TABLE of two stages has roots; this one of two middles keeps products of two, too.
double = repeated(((((half,),),), ((one,),)), 2)
nothing, nothings = (((),), ((),)), (((), ()), ((), ()))
# Part 0 at the start of the round, part 1 at its end: kept crosswise alone.
leap = ((((none,),), ((one,),)), ((one,), (one,)))
pairs = ((((half,),), ((half,),)), ((one,), (one,)))
unlike = ((((half,),), ((half,),)), ((one,), ((2, 1),)))
WAYS = ("each", "whole", "crosswise")


def ways_of(table):
    """(degree, way) that are let for the TABLE."""
    for degree in (1, 2, 3):
        for way in WAYS:
            if way != "crosswise" or degree == 2 and len(table[0]) == 2:
                yield degree, way


def tables():
    yield from (plain, middle, euler, mid, implicit, double, nothing, nothings, leap, pairs, unlike)
    # Looks that hide what is kept: a stage that is split, one on which nothing hangs, a round there and back.
    yield told(split_stage(sheet_of(middle), 0, (2, 3)), 0)
    yield ((((half, none), (one, (7, 2))),), ((one, none),))
    yield told(split_stage(sheet_of(pairs), 0, (-1, 2)), 0)
    yield (((((none, none), (half, half))),), ((half, half),))
    yield undone(middle)
    for seed in range(24):
        yield some_table(seed, 1 + seed % 3, seed % 4, explicit=seed % 5 == 0)


def own_array(table, v, w):
    (matrices, weights), stages = table, range(len(table[0][0]))
    return tuple(tuple(pair(ratio(weights[v][i]) * ratio(matrices[w][i][j]) + ratio(weights[w][j]) * ratio(matrices[v][j][i])
                            - ratio(weights[v][i]) * ratio(weights[w][j])) for j in stages) for i in stages)


def own_defect(table, trees):
    total = Fraction(1)
    for tree in trees:
        total *= ratio(weight(table, tree))
    for at, tree in enumerate(trees):
        others = list(trees[:at]) + list(trees[at + 1:])
        total -= ratio(weight(table, (tree[0], tuple(sorted(list(tree[1]) + others)))))
    return total


def own_power(table, degree, way, most):
    """The losing power by all TREES with few places, None if it is greater than most."""
    parts, found = range(len(table[0])), []
    trees = [tree for places in range(1, most + 1) for tree in trees_of(len(table[0]), places)]
    if way != "each":
        found += [places_of_tree(tree) for tree in trees for part in parts
                  if weight(table, tree) != weight(table, (part, tree[1]))]
    for many in range(2, degree + 1):
        for lot in itertools.combinations_with_replacement(trees, many):
            places = sum(places_of_tree(tree) for tree in lot)
            if places <= most and (way != "crosswise" or sorted(tree[0] for tree in lot) == [0, 1]) and own_defect(table, lot):
                found.append(places)
    return min(found, default=None)


def changed(table, change, start, poly, power):
    """The series of the POLY of what the TABLE tells, as Fractions."""
    series = series_run(sheet_of(table), change, start, power)[0]
    return along(poly, [[ratio(x) for x in cell] for cell in series])


class Ways(Case):

    def test_the_example(self):
        self.gives(True, kept_so, change=turn, poly=size, way="each")

    def test_each_and_whole(self):
        spring = (((((0, 1), less),), ()), ((), (((1, 0), one),)))
        self.gives(False, kept_so, change=spring, poly=size, way="each")
        self.gives(True, kept_so, change=spring, poly=size, way="whole")
        self.gives(True, kept_so, change=spring, poly=(), way="each")
        self.gives(True, kept_so, change=spring, poly=(((0, 0), half),), way="each")
        for seed in range(40):
            change = tuple(tuple(some_poly(seed + 5 * part + cell, 2, 1, 1) if seed % (cell + 2) else () for cell in range(2))
                           for part in range(1 + seed % 3))
            poly = some_poly(seed, 2, 2, 2)
            self.gives(all(is_kept_by(change, part, poly) for part in range(len(change))), kept_so, change=change, poly=poly, way="each")
            self.gives(is_kept(change, poly), kept_so, change=change, poly=poly, way="whole")

    def test_crosswise(self):
        # x' = z by part 0, z' = - x by part 1, u and v likewise: each part keeps x v - z u.
        turned = (((((0, 1, 0, 0), one),), (), (((0, 0, 0, 1), one),), ()), ((), (((1, 0, 0, 0), less),), (), (((0, 0, 1, 0), less),)))
        area = (((0, 1, 1, 0), less), ((1, 0, 0, 1), one))
        self.gives(True, kept_so, change=turned, poly=area, way="crosswise")
        self.gives(False, kept_so, change=turned, poly=area[:1], way="crosswise")
        still = (((), (), ()), ((), (), ()))
        for poly, can in (((), True), ((((1, 1, 0), one),), True), ((((0, 1, 1), one), ((1, 1, 0), half)), True),
                          # Of other degrees, of one cell twice, with pairs of other degrees beside.
                          ((((0, 0, 0), one),), False), ((((1, 0, 0), one),), False), ((((1, 1, 1), one),), False),
                          ((((2, 0, 0), one),), False), ((((0, 2, 0), one), ((1, 0, 1), one)), False),
                          ((((0, 0, 1), one), ((1, 1, 0), one)), False), ((((0, 0, 0), one), ((1, 1, 0), one)), False),
                          ((((2, 1, 0), one),), False)):
            self.gives(can, kept_so, change=still, poly=poly, way="crosswise")
        # Which part moves which cell: all together keep the product.
        for first, second in (((0,), (1,)), ((1,), (0,)), ((0,), (0,)), ((1,), (1,)), ((), (0, 1)), ((0, 1), ()), ((0, 1), (1,)),
                              ((0,), (0, 1)), ((0, 1), (0, 1)), ((), ())):
            can = 1 not in first and 0 not in second or 1 not in second and 0 not in first
            change, product = self.moved(first, second), (((1, 1), one),)
            self.gives(can, kept_so, change=change, poly=product, way="crosswise")
            self.gives(True, kept_so, change=change, poly=product, way="whole")
        self.gives(False, kept_so, change=self.moved((0,), (1,)), poly=(((1, 1), one),), way="each")

    def moved(self, first, second):
        """Two cells that these parts move, each at some multiple of itself, such that their product stays."""
        moves = [(part, 0) for part in first] + [(part, 1) for part in second]
        rates = [[(), ()], [(), ()]]
        for at, (part, cell) in enumerate(moves):
            x = (1 - len(moves), 1) if at == 0 else one
            rates[part][cell] = (((1 - cell, cell), x),)
        return tuple(tuple(row) for row in rates)

    def test_errors(self):
        still = (((), ()), ((), ()))
        for way in ("", "Each", "every", "across", None, 3):
            self.raises(CanNot, kept_so, change=turn, poly=size, way=way)
            self.raises(CanNot, keeps, table=plain, degree=2, way=way)
            self.raises(CanNot, losing_power, table=plain, degree=2, way=way)
            self.raises(CanNot, losing_change, table=plain, degree=2, way=way)
            self.raises(CanNot, is_losing, table=plain, degree=2, way=way, thing=None)
        for poly in ((), size, (((1, 0), one),)):
            self.raises(Unfit, kept_so, change=turn, poly=poly, way="crosswise")
            self.raises(Unfit, kept_so, change=turn * 3, poly=poly, way="crosswise")
            self.assertIn(kept_so(still, poly, "crosswise"), (True, False))
        for table, degree in ((plain, 2), (some_table(1, 3, 2), 2), (leap, 1), (leap, 3), (nothing, 2)):
            for function in (keeps, losing_power, losing_change):
                self.raises(Unfit, function, table=table, degree=degree, way="crosswise")
            self.raises(Unfit, is_losing, table=table, degree=degree, way="crosswise", thing=None)


class Arrays(Case):

    def test_the_examples(self):
        self.gives(((less,),), array_of, table=plain, part=0, other=0)
        self.gives(((none,),), array_of, table=middle, part=0, other=0)
        self.gives(one, defect, table=plain, trees=(leaf, leaf))
        self.gives((1, 4), defect, table=middle, trees=(leaf, leaf, leaf))

    def test_own_sums(self):
        for table in tables():
            for part in range(len(table[0])):
                for other in range(len(table[0])):
                    self.gives(own_array(table, part, other), array_of, table=table, part=part, other=other)

    def test_no_place(self):
        self.no_place(1, array_of, table=plain, part=1, other=2)
        self.no_place(-1, array_of, table=plain, part=-1, other=0)
        self.no_place(2, array_of, table=leap, part=1, other=2)
        self.no_place(-3, array_of, table=leap, part=1, other=-3)

    def test_defects(self):
        for table in tables():
            trees = [tree for places in (1, 2, 3) for tree in trees_of(len(table[0]), places)][:9]
            for many in (2, 3):
                for lot in list(itertools.product(trees, repeat=many))[::41]:
                    self.gives(pair(own_defect(table, lot)), defect, table=table, trees=lot)


class Keeps(Case):

    def test_the_examples(self):
        self.gives(True, keeps, table=plain, degree=1, way="each")
        self.gives(False, keeps, table=plain, degree=2, way="each")
        self.gives(True, keeps, table=middle, degree=2, way="each")
        self.gives(2, losing_power, table=plain, degree=2, way="each")
        self.gives(3, losing_power, table=middle, degree=3, way="whole")

    def test_beside_the_arrays_of_the_least_table(self):
        seen = set()
        for table in tables():
            least, parts = least_table(table), range(len(table[0]))
            zero = {(v, w): not any(x[0] for row in own_array(least, v, w) for x in row) for v in parts for w in parts}
            equal = all(row == least[1][0] for row in least[1])
            for degree, way in ways_of(table):
                expected = way == "each" or equal
                if degree == 2:
                    expected &= zero[0, 1] if way == "crosswise" else all(zero.values())
                if degree == 3:
                    expected &= least[1][0] == ()
                self.gives(expected, keeps, table=table, degree=degree, way=way)
                seen.add((degree, way, expected))
        self.assertEqual(len(seen), 13)

    def test_some(self):
        for table, degree, way, expected in (
                (double, 2, "whole", True), (double, 3, "each", False), (nothing, 3, "each", True), (nothing, 3, "whole", True),
                (nothings, 2, "crosswise", True), (nothings, 3, "whole", True), (leap, 2, "crosswise", True), (leap, 2, "whole", False),
                (leap, 2, "each", False), (leap, 1, "whole", True), (pairs, 2, "each", True), (pairs, 2, "crosswise", True),
                (pairs, 2, "whole", True), (unlike, 1, "whole", False), (unlike, 1, "each", True), (unlike, 2, "crosswise", False),
                (undone(middle), 2, "each", True), (mid, 2, "each", False)):
            self.gives(expected, keeps, table=table, degree=degree, way=way)

    def test_losing_power_beside_all_trees(self):
        for table in tables():
            most = 5 if len(table[0]) == 1 else 4 if len(table[0]) == 2 else 3
            for degree, way in ways_of(table):
                found, expected = losing_power(table, degree, way), own_power(table, degree, way, most)
                self.gives(found, losing_power, table=table, degree=degree, way=way)
                self.assertEqual(found is None, keeps(table, degree, way))
                if expected is None:
                    self.assertTrue(found is None or found > most)
                else:
                    self.same(found, expected)


class Grafted(Case):

    def looks_right(self, trees, many):
        found = grafted_change(trees, many)
        self.gives(found, grafted_change, trees=trees, many=many)
        change, start, poly = found
        self.assertTrue(is_change(change) and is_ladder(change) and len(change) == many)
        self.assertTrue(is_poly(poly, len(start)) and len(start) == len(change[0]))
        self.assertEqual(max(sum(powers) for powers, x in poly), len(trees))
        for part in range(many):
            self.assertTrue(is_kept_by(change, part, poly))
        places = sum(places_of_tree(tree) for tree in trees)
        for table in [table for table in tables() if len(table[0]) == many][:6]:
            lost = pair(own_defect(table, trees))
            for h in (one, (-2, 3)):
                end = run_of(sheet_of(table), change, start, h)[0]
                self.same(pair(ratio(poly_at(poly, end)) - ratio(poly_at(poly, start))), pair(ratio(lost) * ratio(h) ** places))

    def test_grafted_change(self):
        for many in (1, 2, 3):
            trees = [tree for places in (1, 2, 3) for tree in trees_of(many, places)]
            for count in (2, 3):
                lots = list(itertools.product(trees, repeat=count))
                for lot in lots[::1 + len(lots) // 20]:
                    self.looks_right(lot, many)
        self.looks_right((leaf, leaf), 4 - 1)
        self.looks_right(((1, ()), (0, ()), (1, ())), 2)
        deep = (0, ((0, ((0, ((0, ()), (0, ()))),)), (0, ())))
        self.looks_right((deep, deep), 1)
        self.looks_right((deep, leaf, deep), 1)


class Losing(Case):

    def test_the_example(self):
        self.is_one(is_losing, [(turn, (one, none), size, 2)], table=plain, degree=2, way="each")

    def test_losing_change(self):
        seen = 0
        for table in tables():
            for degree, way in ways_of(table):
                found = losing_change(table, degree, way)
                self.gives(found, losing_change, table=table, degree=degree, way=way)
                if keeps(table, degree, way):
                    self.assertIsNone(found)
                    continue
                change, start, poly, power, loss = found
                self.assertTrue(is_change(change) and is_ladder(change) and len(change) == len(table[0]))
                self.assertLessEqual(max(sum(powers) for powers, x in poly), degree)
                self.assertTrue(kept_so(change, poly, way))
                self.same(power, losing_power(table, degree, way))
                self.assertNotEqual(loss, none)
                for h in (one, half, (-3, 1)):
                    end = run_of(sheet_of(table), change, start, h)[0]
                    self.same(pair(ratio(poly_at(poly, end)) - ratio(poly_at(poly, start))), pair(ratio(loss) * ratio(h) ** power))
                self.is_one(is_losing, [found[:4]], table=table, degree=degree, way=way)
                self.is_none(is_losing, [found, found[:3], found[:3] + (power + 1,), found[:3] + (power - 1,), list(found[:4]),
                                         (change, start[:-1], poly, power), (change * 2, start, poly, power), (change, start, (), power)], table=table, degree=degree, way=way)
                seen += 1
        self.assertGreater(seen, 60)

    def test_beside_series(self):
        # The least power at which a POLY is changed, of changes of any kind.
        changes = [(turn, (one, none), size), (turn, (half, (2, 3)), size), (turn, (none, none), size),
                   # x' = x z, z' = - x x keeps the size.
                   ((((((1, 1), one),), (((2, 0), less),)),), (one, half), size)]
        for table in (plain, middle, mid, implicit, double, euler, undone(plain), ((((none, none), (one, none)),), ((half, half),))):
            for change, start, poly in changes:
                worths = changed(table, change, start, poly, 7)
                unlike_at = [at for at in range(1, 8) if worths[at]]
                for power in range(-1, 8):
                    self.same(is_losing(table, 2, "each", (change, start, poly, power)), unlike_at[:1] == [power])
                    self.same(is_losing(table, 3, "whole", (change, start, poly, power)), unlike_at[:1] == [power])
                    self.same(is_losing(table, 1, "each", (change, start, poly, power)), False)

    def test_bent(self):
        self.only_unbent(is_losing, (turn, (one, none), size, 2), table=plain, degree=2, way="each")
        found = losing_change(unlike, 2, "crosswise")[:4]
        self.only_unbent(is_losing, found, table=unlike, degree=2, way="crosswise")
        # Not kept by the way, too great a degree, not of as many parts.
        self.is_none(is_losing, [(turn, (one, none), (((1, 1), one),), 1), (turn + turn, (one, none), size, 2),
                                 (turn, (one, none), (((0, 4), one), ((2, 2), (2, 1)), ((4, 0), one)), 2)], table=plain, degree=2, way="each")
        spring = (((((0, 1), less),), ()), ((), (((1, 0), one),)))
        self.is_none(is_losing, [(spring, (one, none), size, 2)], table=leap, degree=2, way="each")
        worths = changed(leap, spring, (one, none), size, 5)
        power = [at for at in range(1, 6) if worths[at]][0]
        self.is_one(is_losing, [(spring, (one, none), size, power)], table=leap, degree=2, way="whole")
        self.is_none(is_losing, [(spring, (one, none), size, power)], table=leap, degree=2, way="crosswise")

    def tower(self, low, high):
        """c; t' = c, u' = t to the power low, x' = u to the power high, by part 0; x and a cell moved back by part 1 are kept by whole."""
        cells = ((), (((1, 0, 0, 0, 0), one),), (((0, low, 0, 0, 0), one),), (((0, 0, high, 0, 0), one),), ())
        others = ((), (), (), (), (((0, 0, high, 0, 0), less),))
        return (cells, others), (one, none, none, none, none), (((0, 0, 0, 0, 1), one), ((0, 0, 0, 1, 0), one)), (low + 1) * high + 1

    def test_powers_to_24_and_to_300(self):
        table = ((((half,),), ((half,),)), ((one,), ((2, 1),)))
        for low, high, can in ((1, 1, True), (24, 11, True), (22, 13, True), (24, 12, False), (25, 2, False), (2, 25, False), (24, 13, False)):
            change, start, poly, power = self.tower(low, high)
            self.gives(can and power <= 300, is_losing, table=table, degree=1, way="whole", thing=(change, start, poly, power))
            self.same(is_losing(table, 1, "whole", (change, start, poly, power + 1)), False)
            self.same(is_losing(table, 1, "whole", (change, start, poly, 1)), False)

    def test_greatest(self):
        table = some_table(9, 4, 8)
        for degree, way in ways_of(table):
            found = losing_change(table, degree, way)
            self.assertEqual(found is None, keeps(table, degree, way))
            if found is not None:
                self.is_one(is_losing, [found[:4]], table=table, degree=degree, way=way)

    def test_a_late_loss(self):
        # Equal weights, and TREES of few places weigh as if all were kept: it shows with more places.
        gauss = repeated(middle, 3)
        self.same(losing_power(gauss, 2, "each"), None)
        self.same(losing_power(gauss, 3, "each"), 3)
        self.assertLessEqual(degree_of(losing_change(gauss, 3, "each")[0]), 3)


if __name__ == "__main__":
    unittest.main()
