import itertools
import random
import unittest
from fractions import Fraction
from math import factorial

from everychange.changes import (is_ladder, plus_polys, poly_at, scaled_poly, slope_poly, times_polys, tree_change,
                                 whole_rates)
from everychange.engine import (flow_series, is_solution, points_of, row_series, run_of, series_at, series_run, told_from,
                                unlike_at)
from everychange.errors import CanNot
from everychange.tables import (behind, beside, is_explicit, mixed, only, put_in_order, renamed, repeated, rounds, scaled,
                                sheet_of, spread, told, undone)
from everychange.trees import places_of_tree, trees_of
from everychange.weights import weight
from tests.helpers import HALF, ONE, ZERO, Case, pair, ratio
from tests.test_changes import some_change, some_poly, some_state, spring, square, value
from tests.test_tables import euler, implicit, mid, none, some_sheet, some_table, two

BIG = 10 ** 30
zero, half, unit, leaf = ZERO, HALF, ONE, (0, ())


def some_ladder(seed, parts, cells):
    """A ladder: the cells hang on earlier ones."""
    found = []
    for part in range(parts):
        polys = [some_poly(seed * 100 + part * 10 + cell, cell, 2, 2) for cell in range(cells)]
        found.append(tuple(tuple((powers + (0,) * (cells - len(powers)), x) for powers, x in poly) for poly in polys))
    return tuple(found)


def plain_points(sheet, change, start, h, points):
    """What the points should be by what is asked at points."""
    stages = range(len(sheet[0][0]))
    return [tuple(pair(ratio(y) + ratio(h) * sum(ratio(matrix[i][k]) * value(change[part][cell], points[k])
                                                 for part, matrix in enumerate(sheet[0]) for k in stages))
                  for cell, y in enumerate(start)) for i in stages]


def plain_tells(sheet, change, start, h, points):
    stages = range(len(sheet[0][0]))
    return [tuple(pair(ratio(y) + ratio(h) * sum(ratio(row[k]) * value(change[part][cell], points[k])
                                                 for part, row in enumerate(tell) for k in stages))
                  for cell, y in enumerate(start)) for tell in sheet[1]]


class Points(Case):

    def looks_right(self, sheet, change, start, h):
        points = points_of(sheet, change, start, h)
        self.same(points, plain_points(sheet, change, start, h, points))
        self.same(run_of(sheet, change, start, h), plain_tells(sheet, change, start, h, points))
        self.gives(points, points_of, sheet=sheet, change=change, start=start, h=h)
        self.gives(True, is_solution, sheet=sheet, change=change, start=start, h=h, points=tuple(points))
        self.gives(plain_tells(sheet, change, start, h, points), told_from, sheet=sheet, change=change, start=start, h=h,
                   points=tuple(points))

    def test_the_examples(self):
        self.gives([((13, 4),)], run_of, sheet=sheet_of(mid), change=square, start=(unit,), h=unit)
        self.gives([(unit,), ((3, 2),)], points_of, sheet=sheet_of(mid), change=square, start=(unit,), h=unit)
        self.gives(True, is_solution, sheet=sheet_of(implicit), change=square, start=(zero,), h=(2, 1), points=((unit,),))
        bush = tree_change((0, (leaf, leaf)), 1)
        for table in (implicit, mid):
            self.gives([((1, 1), (1, 4))], run_of, sheet=sheet_of(table), change=bush, start=(zero, zero), h=unit)

    def test_explicit(self):
        for seed in range(12):
            parts, cells = 1 + seed % 2, 1 + seed % 3
            sheet = some_sheet(seed, parts, seed % 4, seed % 3, explicit=True)
            change, start = some_change(seed, parts, cells), some_state(seed, cells)
            self.looks_right(sheet, change, start, (2, 3))

    def test_stages_in_another_order(self):
        for seed, order in enumerate(itertools.permutations(range(3))):
            sheet = some_sheet(seed, 2, 3, 2, explicit=True)
            change, start = some_change(seed, 2, 2), some_state(seed, 2)
            other = renamed(sheet, order)
            self.looks_right(other, change, start, half)
            self.same(run_of(other, change, start, half), run_of(sheet, change, start, half))
            points = points_of(sheet, change, start, half)
            self.same(points_of(other, change, start, half), [points[stage] for stage in order])
            self.same(run_of(put_in_order(other), change, start, half), run_of(sheet, change, start, half))

    def test_ladders(self):
        for seed in range(12):
            parts, cells = 1 + seed % 2, 1 + seed % 4
            sheet = some_sheet(seed, parts, 1 + seed % 3, seed % 3)
            change, start = some_ladder(seed, parts, cells), some_state(seed, cells)
            self.assertTrue(is_ladder(change))
            for h in ((1, 3), zero, (-7, 1), (10 ** 6, 1)):
                self.looks_right(sheet, change, start, h)

    def test_what_is_neither(self):
        circle = renamed(beside(sheet_of(implicit), sheet_of(mid)), (2, 0, 1))
        for sheet in (sheet_of(implicit), circle):
            for function in (points_of, run_of):
                self.raises(CanNot, function, sheet=sheet, change=square, start=(unit,), h=half)
                self.raises(CanNot, function, sheet=sheet, change=square, start=(unit,), h=zero)
        self.raises(CanNot, run_of, sheet=((((unit,),), ((zero,),)), ()), change=spring, start=(unit, unit), h=half)

    def test_no_stages_and_no_tells(self):
        self.gives([], points_of, sheet=sheet_of(none), change=square, start=(unit,), h=half)
        self.gives([(unit,)], run_of, sheet=sheet_of(none), change=square, start=(unit,), h=half)
        self.gives([], run_of, sheet=(((),), ()), change=square, start=(unit,), h=half)
        self.gives([], run_of, sheet=(mid[0], ()), change=square, start=(unit,), h=half)
        self.gives([], told_from, sheet=(mid[0], ()), change=square, start=(unit,), h=half, points=((unit,), (unit,)))
        self.gives(True, is_solution, sheet=sheet_of(none), change=square, start=(unit,), h=half, points=())
        self.gives([((5, 1), half)], run_of, sheet=sheet_of(mid), change=(((), ()),), start=((5, 1), half), h=half)

    def test_no_solution(self):
        self.gives(False, is_solution, sheet=sheet_of(implicit), change=square, start=(zero,), h=(2, 1), points=((half,),))
        self.gives(True, is_solution, sheet=sheet_of(implicit), change=square, start=(zero,), h=(2, 1), points=((zero,),))
        for seed in range(6):
            sheet, change = some_sheet(seed, 2, 3, 2), some_ladder(seed, 2, 2)
            start = some_state(seed, 2)
            points = tuple(points_of(sheet, change, start, half))
            for stage, cell in itertools.product(range(3), range(2)):
                spoilt = [list(point) for point in points]
                spoilt[stage][cell] = pair(ratio(spoilt[stage][cell]) + Fraction(1, BIG))
                self.same(is_solution(sheet, change, start, half, spoilt), False)
                self.same(told_from(sheet, change, start, half, spoilt),
                          plain_tells(sheet, change, start, half, spoilt))

    def test_big_fractions(self):
        change = ((((((2,), (BIG, BIG - 1)),)),),)
        start, h = ((1 - BIG, BIG),), (BIG - 1, BIG)
        self.looks_right(sheet_of(mid), change, start, h)
        told_there, = run_of(sheet_of(mid), change, start, h)
        self.looks_right(sheet_of(mid), change, told_there, h)

    def test_trees_are_weighed(self):
        for seed in range(8):
            parts = 1 + seed % 2
            table = some_table(seed, parts, 3)
            for tree in trees_of(parts, 3) + trees_of(parts, 4)[::5]:
                change = tree_change(tree, parts)
                for h in (unit, (-3, 2)):
                    told_there, = run_of(sheet_of(table), change, (zero,) * len(change[0]), h)
                    self.same(told_there[-1], pair(ratio(weight(table, tree)) * ratio(h) ** places_of_tree(tree)))


class MadeTables(Case):
    """What the functions of tables.py make tells what the document says of it."""

    def cases(self):
        for seed in range(8):
            parts, cells = 1 + seed % 2, 1 + seed % 3
            explicit = seed % 4 < 2
            first = some_table(seed, parts, 2, explicit=explicit)
            second = some_table(seed + 77, parts, 1 + seed % 2, explicit=explicit)
            change = (some_change if explicit else some_ladder)(seed, parts, cells)
            yield first, second, change, some_state(seed, cells)

    def run_one(self, table, change, start, h):
        found, = run_of(sheet_of(table), change, start, h)
        return found

    def test_behind_repeated_rounds(self):
        for first, second, change, start in self.cases():
            between = self.run_one(first, change, start, half)
            self.same(self.run_one(behind(first, second), change, start, half),
                      self.run_one(second, change, between, half))
            states = [start]
            for _ in range(3):
                states.append(self.run_one(first, change, states[-1], half))
            self.same(self.run_one(repeated(first, 3), change, start, half), states[3])
            self.same(run_of(rounds(first, 3), change, start, half), states[1:])

    def test_scaled(self):
        for first, _, change, start in self.cases():
            self.same(self.run_one(scaled(first, (-2, 3)), change, start, half),
                      self.run_one(first, change, start, (-1, 3)))

    def test_undone(self):
        for first, _, change, start in self.cases():
            sheet = sheet_of(first)
            points = tuple(points_of(sheet, change, start, half))
            end, = run_of(sheet, change, start, half)
            back = sheet_of(undone(first))
            self.assertTrue(is_solution(back, change, end, half, points))
            self.same(told_from(back, change, end, half, points), [start])
            both = sheet_of(behind(first, undone(first)))
            still = tuple((x,) + (zero,) * 5 for x in start)
            self.same(series_run(both, change, start, 5), [still])

    def test_mixed_and_beside(self):
        for first, second, change, start in self.cases():
            one, other = self.run_one(first, change, start, half), self.run_one(second, change, start, half)
            mix = tuple(pair(3 * ratio(x) - 2 * ratio(y)) for x, y in zip(one, other))
            self.same(self.run_one(mixed((first, second), ((3, 1), (-2, 1))), change, start, half), mix)
            self.same(run_of(beside(sheet_of(first), sheet_of(second)), change, start, half), [one, other])
            self.same(self.run_one(told(beside(sheet_of(first), sheet_of(second)), 1), change, start, half), other)

    def test_spread_and_only(self):
        change, start = some_change(1, 2, 2), some_state(1, 2)
        whole = (tuple(plus_polys(*polys) for polys in zip(*change)),)
        self.same(self.run_one(spread(mid, 2), change, start, half), self.run_one(mid, whole, start, half))
        still = (change[0], ((), ()))
        table = some_table(4, 2, 3, explicit=True)
        self.same(self.run_one(only(table, 0), change[:1], start, half), self.run_one(table, still, start, half))


def cut(series, power):
    return [series[at] if at < len(series) else Fraction(0) for at in range(power + 1)]


def multiplied(first, second):
    places = [Fraction(0)] * len(first)
    for at, x in enumerate(first):
        for k, y in enumerate(second[:len(first) - at]):
            places[at + k] += x * y
    return places


def along(poly, series):
    """The series of the values of a POLY along the series of its cells."""
    total = [Fraction(0)] * len(series[0])
    for powers, x in poly:
        term = cut([ratio(x)], len(total) - 1)
        for power, cell in zip(powers, series):
            for _ in range(power):
                term = multiplied(term, cell)
        total = [a + b for a, b in zip(total, term)]
    return total


def as_series(rows):
    return tuple(tuple(pair(x) for x in row) for row in rows)


def plain_series(sheet, change, start, power):
    """The tells as series: the points are put in again and again."""
    matrices, tells = sheet
    stages, cells = range(len(matrices[0])), range(len(start))
    still = [cut([ratio(x)], power) for x in start]
    points = [still for _ in stages]
    def moved(rows, rates):
        found = []
        for cell in cells:
            row = list(still[cell])
            for part, weights in enumerate(rows):
                for k in stages:
                    for at in range(power):
                        row[at + 1] += ratio(weights[k]) * rates[part, k][cell][at]
            found.append(row)
        return found
    for _ in range(power + 1):
        rates = {(part, k): [along(poly, points[k]) for poly in polys]
                 for part, polys in enumerate(change) for k in stages}
        points = [moved([matrix[i] for matrix in matrices], rates) for i in stages]
    return [as_series(moved(tell, rates)) for tell in tells]


def lie_series(change, row, start, power):
    """Where a ROW leads start, by slopes of slopes: later pairs of the ROW come first."""
    cells = range(len(start))
    one = [tuple(int(at == cell) for at in cells) for cell in cells]
    found = []
    for cell in cells:
        polys = [((one[cell], unit),)] + [()] * power
        for part, x in reversed(row):
            moved = [()] * (power + 1)
            for at, poly in enumerate(polys):
                for further in range(power + 1 - at):
                    moved[at + further] = plus_polys(moved[at + further], poly)
                    slopes = [times_polys(slope_poly(poly, k), change[part][k]) for k in cells]
                    poly = ()
                    for slope in slopes:
                        poly = plus_polys(poly, scaled_poly(slope, pair(ratio(x) / (further + 1))))
            polys = moved
        found.append(tuple(poly_at(poly, start) for poly in polys))
    return tuple(found)


class Series(Case):

    def test_the_examples(self):
        series = ((unit, unit, unit, (1, 4)),)
        self.gives([series], series_run, sheet=sheet_of(mid), change=square, start=(unit,), power=3)
        self.gives(((unit,) * 4,), flow_series, change=square, start=(unit,), power=3)
        self.gives(3, unlike_at, series=series, other=((unit,) * 4,))
        self.gives([((unit,) * 3,)], series_run, sheet=sheet_of(implicit), change=square, start=(unit,), power=2)
        self.gives(((unit, zero, zero), (zero, unit, zero)), row_series, change=spring, row=((0, unit), (1, unit)),
                   start=(unit, zero), power=2)

    def test_of_any_sheet(self):
        for seed in range(10):
            parts, cells = 1 + seed % 2, 1 + seed % 3
            sheet = some_sheet(seed, parts, 1 + seed % 3, 1 + seed % 2)
            change, start = some_change(seed, parts, cells), some_state(seed, cells)
            self.gives(plain_series(sheet, change, start, 4), series_run, sheet=sheet, change=change, start=start, power=4)

    def test_series_of_polynomials_are_what_is_run(self):
        for seed in range(6):
            sheet, change, start = some_sheet(seed, 2, 2, 2), some_ladder(seed, 2, 3), some_state(seed, 3)
            found = series_run(sheet, change, start, 12)
            self.same([series_at(series, (-5, 3)) for series in found], run_of(sheet, change, start, (-5, 3)))

    def test_the_implicit_midpoint(self):
        # y = 1 + h/2 y y, told 1 + h y y: the points have the FRACTIONS of Catalan's numbers over powers of 2.
        series, = series_run(sheet_of(implicit), square, (unit,), 12)[0]
        y = cut([Fraction(1)], 12)
        for _ in range(13):
            squared = multiplied(y, y)
            y = [Fraction(1)] + [x / 2 for x in squared[:-1]]
        self.same(series, tuple(pair(x) for x in [Fraction(1)] + multiplied(y, y)[:-1]))

    def test_edges(self):
        self.gives([((unit,),)], series_run, sheet=sheet_of(mid), change=square, start=(unit,), power=0)
        self.gives([((unit, zero, zero),)], series_run, sheet=sheet_of(none), change=square, start=(unit,), power=2)
        self.gives([], series_run, sheet=(mid[0], ()), change=square, start=(unit,), power=2)
        self.gives([], series_run, sheet=(((),), ()), change=square, start=(unit,), power=2)
        self.gives(((unit,),), flow_series, change=square, start=(unit,), power=0)
        self.gives(((half, zero), (unit, zero)), flow_series, change=(((), ()),), start=(half, unit), power=1)
        self.gives(((unit,),), row_series, change=square, row=((0, unit),), start=(unit,), power=0)
        self.gives(((unit, zero, zero),), row_series, change=square, row=(), start=(unit,), power=2)
        self.gives(((unit, zero, zero),), row_series, change=square, row=((0, zero),), start=(unit,), power=2)

    def test_flows_beside_their_own_slopes(self):
        for seed in range(8):
            parts, cells = 1 + seed % 3, 1 + seed % 3
            change, start = some_change(seed, parts, cells), some_state(seed, cells)
            series = flow_series(change, start, 5)
            self.same(tuple(row[0] for row in series), start)
            rows = [[ratio(x) for x in row] for row in series]
            for cell in range(cells):
                rates = [along(part[cell], rows) for part in change]
                for at in range(5):
                    self.assertEqual(rows[cell][at + 1] * (at + 1), sum(rate[at] for rate in rates))
            self.gives(series, flow_series, change=change, start=start, power=5)
            self.same(tuple(row[1] for row in series), whole_rates(change, start))

    def test_known_flows(self):
        growth = (((((1,), unit),),),)
        self.gives((tuple(pair(Fraction(1, factorial(at))) for at in range(13)),), flow_series, change=growth,
                   start=(unit,), power=12)
        self.gives(((unit, zero, (-1, 2), zero, (1, 24)), (zero, (-1, 1), zero, (1, 6), zero)), flow_series,
                   change=(((((0, 1), unit),), (((1, 0), (-1, 1)),)),), start=(unit, zero), power=4)

    def test_rows_part_by_part(self):
        for seed in range(6):
            change, start = some_change(seed, 2, 2, 2, 2), some_state(seed, 2)
            source = random.Random(seed)
            row = tuple((source.randint(0, 1), pair(Fraction(source.randint(-2, 2), source.randint(1, 2))))
                        for _ in range(3))
            self.gives(lie_series(change, row, start, 3), row_series, change=change, row=row, start=start, power=3)
            x = Fraction(-2, 3)
            alone = flow_series(change[1:], start, 5)
            self.same(row_series(change, ((1, pair(x)),), start, 5),
                      tuple(tuple(pair(ratio(y) * x ** at) for at, y in enumerate(cell)) for cell in alone))
            self.same(row_series(change, ((0, half), (0, (1, 3)), (1, unit), (1, (-1, 1))), start, 5),
                      row_series(change, ((0, (5, 6)),), start, 5))

    def test_long_rows(self):
        # 1 + x, then x to x / (1 - x h), forth and back, is what it was.
        change = (((((0,), unit),),), ((((2,), unit),),))
        there = ((0, half), (1, unit), (0, (-2, 1)), (1, (1, 3))) * 5
        back = tuple((part, (-x[0], x[1])) for part, x in reversed(there))
        self.same(row_series(change, there + back, (half,), 6), ((half,) + (zero,) * 6,))
        # Moved by h, then led to y / (1 - h y).
        moved = row_series(change, ((0, unit), (1, unit)), (unit,), 6)
        y = cut([Fraction(1), Fraction(1)], 6)
        total, term = list(y), list(y)
        for _ in range(6):
            term = [Fraction(0)] + multiplied(term, y)[:-1]
            total = [a + b for a, b in zip(total, term)]
        self.same(moved, as_series([total]))

    def test_all_parts_are_one_flow_where_they_go_together(self):
        change = (((((1, 0), unit),), ()), ((), (((0, 1), half),)))
        self.same(row_series(change, ((0, unit), (1, unit)), (unit, unit), 6), flow_series(change, (unit, unit), 6))

    def test_unlike_at(self):
        first = ((unit, half, zero), (zero, unit, unit))
        self.gives(None, unlike_at, series=first, other=first)
        self.gives(0, unlike_at, series=first, other=(first[0], (unit, unit, unit)))
        self.gives(1, unlike_at, series=first, other=((unit, zero, zero), (zero, unit, zero)))
        self.gives(2, unlike_at, series=first, other=(first[0], (zero, unit, half)))

    def test_series_at(self):
        self.gives(((7, 4), zero), series_at, series=((unit, unit, unit), (zero, zero, zero)), h=half)
        self.gives((unit, (-3, 2)), series_at, series=((unit, (5, 1)), ((-3, 2), unit)), h=zero)

    def test_orders(self):
        for table, least in ((euler, 2), (mid, 3), (implicit, 3), (two, None)):
            if least:
                for seed in range(4):
                    change, start = some_change(seed, 1, 2), some_state(seed, 2)
                    series, = series_run(sheet_of(table), change, start, 4)
                    at = unlike_at(series, flow_series(change, start, 4))
                    self.assertTrue(at is None or at >= least)

    def test_big_fractions(self):
        change, start = ((((((2,), (BIG, BIG - 1)),)),),), ((1 - BIG, BIG),)
        self.same(series_run(sheet_of(implicit), change, start, 5), plain_series(sheet_of(implicit), change, start, 5))
        self.same(flow_series(change, start, 5)[0][5], pair(ratio(start[0]) ** 6 * Fraction(BIG, BIG - 1) ** 5))
        self.assertTrue(is_explicit(mid))


if __name__ == "__main__":
    unittest.main()
