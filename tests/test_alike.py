import itertools
import random
import unittest
from fractions import Fraction

from everychange.alike import (alike_to, degree_ladder, degree_space, is_alike, is_one_cell_paper, least_degree,
                               one_cell_paper, sharp_pair, told_space, unlike_sums)
from everychange.changes import degree_of, is_change, is_ladder
from everychange.engine import is_solution, run_of, told_from
from everychange.errors import Unfit
from everychange.least import least_table, split_stage
from everychange.lots import lots
from everychange.ratios import in_space, is_space, space_of
from everychange.tables import beside, is_explicit, is_table, mixed, renamed, repeated, scaled, sheet_of, told
from everychange.trees import trees_of
from everychange.weights import tree_row
from tests.helpers import HALF, ONE, ZERO, Case, pair, ratio
from tests.test_changes import some_change, some_state
from tests.test_lots import twins
from tests.test_tables import euler, implicit, mid, some_table, two

none, one, half = ZERO, ONE, HALF
BIG = 10 ** 30
mean = ((((none, none), (one, none)),), ((half, half),))
middle = ((((none, none), (half, none)),), ((none, one),))
bend = (((((0,), (2, 1)), ((1,), (-3, 1)), ((2,), one)),),)
nothing = (((),), ((),))
WITH_TWO = (is_alike, unlike_sums, one_cell_paper, least_degree, degree_ladder)


def hidden(table, seed):
    """A TABLE that tells the same and looks unlike."""
    source = random.Random(seed)
    sheet = sheet_of(table)
    for _ in range(2):
        stages = len(sheet[0][0])
        if stages:
            sheet = split_stage(sheet, source.randrange(stages), pair(Fraction(source.randint(-2, 3), 2)))
    order = list(range(len(sheet[0][0])))
    source.shuffle(order)
    return told(renamed(sheet, tuple(order)), 0)


def pairs_of_tables(many=36):
    """TABLES of one part and of two, explicit and not, without stages, some that tell the same."""
    yield mean, middle
    yield euler, nothing
    yield nothing, nothing
    yield implicit, euler
    yield repeated(euler, 2), scaled(mid, (2, 1))
    for seed in range(many):
        parts = 1 + seed % 2
        table = some_table(seed, parts, seed % 4, explicit=seed % 3 > 0)
        other = some_table(seed + 70, parts, (seed + 1) % 3, explicit=seed % 3 > 0)
        if seed % 4 == 0:
            other = hidden(table, seed)
        if seed % 4 == 1:
            # With the same rows: they part late, if at all.
            other = (table[0], some_table(seed + 500, parts, seed % 4)[1])
        yield table, other


def both(table, other):
    return beside(sheet_of(table), sheet_of(other))


class Same(Case):

    def test_the_examples(self):
        self.gives(False, is_alike, table=mean, other=middle)
        self.gives([(0, 0, (1, 2)), (0, 1, (1, 2)), (0, 2, (-1, 1))], unlike_sums, table=mean, other=middle)
        self.gives(2, least_degree, table=mean, other=middle)
        self.gives(True, alike_to, table=mean, other=middle, degree=1)
        self.gives(False, alike_to, table=mean, other=middle, degree=2)
        self.gives(None, one_cell_paper, table=told(twins, 0), other=implicit)
        self.gives(True, is_alike, table=told(twins, 0), other=implicit)

    def test_unfit_comes_first(self):
        for function in WITH_TWO:
            self.raises(Unfit, function, table=two, other=mid)
            self.raises(Unfit, function, table=nothing, other=((((),) * 3), ((),) * 3))
        self.raises(Unfit, alike_to, table=two, other=mid, degree=40)
        for thing in (None, (bend, ()), 7):
            self.raises(Unfit, is_one_cell_paper, table=mid, other=two, thing=thing)

    def test_beside_the_lots_of_both(self):
        seen = set()
        for table, other in pairs_of_tables():
            parting, expected = lots(both(table, other)), []
            weights = [row + tuple(pair(-ratio(x)) for x in line) for row, line in zip(table[1], other[1])]
            for part, row in enumerate(weights):
                for place, lot in enumerate(parting):
                    total = sum(ratio(row[stage]) for stage in lot)
                    if total:
                        expected.append((part, place, pair(total)))
            self.gives(expected, unlike_sums, table=table, other=other)
            self.gives(not expected, is_alike, table=table, other=other)
            self.assertEqual(is_alike(other, table), not expected)
            seen.add(not expected)
        self.assertEqual(seen, {True, False})

    def test_what_tells_the_same(self):
        for seed in range(16):
            table = some_table(seed, 1 + seed % 3, seed % 5)
            for other in (table, hidden(table, seed), least_table(table), mixed((table, hidden(table, seed)), (half, half))):
                self.gives(True, is_alike, table=table, other=other)
                self.gives([], unlike_sums, table=table, other=other)
                self.gives(None, least_degree, table=table, other=other)
                self.gives(None, one_cell_paper, table=table, other=other)
                self.gives(None, degree_ladder, table=table, other=other)
                self.assertTrue(alike_to(table, other, 40))
        apart = (mean[0], ((half, (BIG - 1, 2 * BIG)),))
        self.gives(False, is_alike, table=mean, other=apart)
        self.gives([(0, 1, (1, 2 * BIG))], unlike_sums, table=mean, other=apart)


class Papers(Case):

    def test_one_cell_paper(self):
        for table, other in pairs_of_tables():
            paper = one_cell_paper(table, other)
            self.gives(paper, one_cell_paper, table=table, other=other)
            self.assertEqual(paper is None, is_alike(table, other))
            if paper is not None:
                change, points = paper
                parting, stages = lots(both(table, other)), len(table[0][0])
                self.assertTrue(is_change(change))
                self.assertEqual([len(change), len(change[0])], [len(table[0]), 1])
                self.assertLessEqual(degree_of(change), len(parting) - 1)
                ends = []
                for own, mine in ((table, points[:stages]), (other, points[stages:])):
                    self.assertTrue(is_solution(sheet_of(own), change, (none,), one, mine))
                    ends.append(told_from(sheet_of(own), change, (none,), one, mine))
                self.assertNotEqual(ends[0], ends[1])
                self.assertTrue(all(points[stage] == points[lot[0]] for lot in parting for stage in lot))
                self.is_one(is_one_cell_paper, [paper], table=table, other=other)

    def test_is_one_cell_paper(self):
        points = ((none,), ((2, 1),), (none,), (one,))
        paper = (bend, points)
        self.only_unbent(is_one_cell_paper, paper, table=mean, other=middle)
        twice = (tuple(bend[0] * 2),)
        steep = (((((0,), (2, 1)), ((1,), (-3, 1)), ((2,), one), ((3,), one)),),)
        self.is_none(is_one_cell_paper, [None, (), (bend,), (bend, points, ()), (bend, points[:3]), (bend, points + points[:1]),
                                         (bend, points[::-1]), (bend, ((none,),) * 4), (bend, ((one,),) + points[1:]),
                                         (bend * 2, points), (twice, points), (twice, tuple(x * 2 for x in points)),
                                         (bend, (none, (2, 1), none, one)), (steep, points), ((((),),), ((none,),) * 4),
                                         (((((0,), one),),), points)], table=mean, other=middle)
        self.is_none(is_one_cell_paper, [paper, None], table=mean, other=mean)
        self.is_none(is_one_cell_paper, [paper, ((((),),), ()), None], table=nothing, other=nothing)

    def test_spoilt_papers(self):
        # Points that are no solution, of the one or of the other, though both tell unlike from them.
        for points in (((none,), (one,), (none,), (one,)), ((none,), ((2, 1),), (none,), (half,))):
            tells = [told_from(sheet_of(own), bend, (none,), one, mine)
                     for own, mine in ((mean, points[:2]), (middle, points[2:]))]
            self.assertNotEqual(tells[0], tells[1])
            self.is_none(is_one_cell_paper, [(bend, points)], table=mean, other=middle)
        # A solution by which both tell the same, and one that is too steep though both tell unlike.
        flat = (((((1,), one),),), ((none,),) * 4)
        self.is_none(is_one_cell_paper, [flat], table=mean, other=middle)
        steep = (((((0,), (2, 1)), ((3,), one)),),)
        points = ((none,), ((2, 1),), (none,), (one,))
        self.assertTrue(is_solution(sheet_of(mean), steep, (none,), one, points[:2]))
        self.assertTrue(is_solution(sheet_of(middle), steep, (none,), one, points[2:]))
        self.assertNotEqual(run_of(sheet_of(mean), steep, (none,), one), run_of(sheet_of(middle), steep, (none,), one))
        self.is_none(is_one_cell_paper, [(steep, points), ((((((10 ** 9,), one),),),), points)], table=mean, other=middle)
        line = (((((0,), (2, 1)),),),)
        twice = (implicit[0], (((2, 1),),))
        self.is_one(is_one_cell_paper, [(line, ((one,), (one,)))], table=implicit, other=twice)
        self.is_none(is_one_cell_paper, [(line, ((one,), (half,)))], table=implicit, other=twice)

    def test_unlike_points_in_one_lot(self):
        wide = ((((half, none, none), (none, half, none), (none, none, none)),), ((one, none, none),))
        other = (wide[0], ((none, one, one),))
        # The two implicit stages are in one lot, with those of other; so are both last ones.
        self.assertEqual(len(lots(both(wide, other))), 2)
        line = (((((0,), one), ((1,), one)),),)
        good = ((one,), (one,), (none,)) * 2
        self.is_one(is_one_cell_paper, [(line, good)], table=wide, other=other)
        # By x' = 2 x each point of an implicit stage is a solution, whatever that of its twin is.
        slope = (((((1,), (2, 1)),),),)
        uneven = ((one,), (half,), (none,)) * 2
        self.assertTrue(is_solution(sheet_of(wide), slope, (none,), one, uneven[:3]))
        self.is_none(is_one_cell_paper, [(slope, uneven)], table=wide, other=other)


def plain_degree_space(sheet, degree):
    """By products of basis rows place by place, till nothing new comes."""
    stages = len(sheet[0][0])
    space = space_of([(one,) * stages], stages)
    while True:
        rows = list(space)
        for lot in itertools.combinations_with_replacement(space, degree):
            product = [Fraction(1)] * stages
            for row in lot:
                product = [x * ratio(y) for x, y in zip(product, row)]
            for matrix in sheet[0]:
                rows.append(tuple(pair(sum(ratio(a) * b for a, b in zip(line, product))) for line in matrix))
        further = space_of(rows, stages)
        if further == space:
            return space
        space = further


def plain_told_space(sheet, degree):
    stages, rows = len(sheet[0][0]), []
    for lot in itertools.combinations_with_replacement(plain_degree_space(sheet, degree), degree):
        product = [Fraction(1)] * stages
        for row in lot:
            product = [x * ratio(y) for x, y in zip(product, row)]
        rows.append(tuple(pair(x) for x in product))
    return space_of(rows, stages)


class Degrees(Case):

    def test_the_examples(self):
        pair_of = both(mean, middle)
        self.gives((((1, 1), (0, 1), (1, 1), (1, 2)), ((0, 1), (1, 1), (0, 1), (1, 2))), degree_space, sheet=pair_of, degree=1)
        self.gives(3, lambda sheet, degree: len(told_space(sheet, degree)), sheet=pair_of, degree=2)
        self.assertEqual(degree_of(degree_ladder(mean, middle)), 2)

    def test_spaces_beside_products(self):
        for at, (table, other) in enumerate(pairs_of_tables(16)):
            for sheet in (sheet_of(table), both(table, other)):
                for degree in (0, 1, 2, 3):
                    if len(sheet[0][0]) < 5 or degree < 3:
                        space, telling = degree_space(sheet, degree), told_space(sheet, degree)
                        self.gives(plain_degree_space(sheet, degree), degree_space, sheet=sheet, degree=degree)
                        self.gives(plain_told_space(sheet, degree), told_space, sheet=sheet, degree=degree)
                        self.assertTrue(is_space(space, len(sheet[0][0])) and is_space(telling, len(sheet[0][0])))

    def test_edges(self):
        for degree in (0, 1, 40):
            self.gives((), degree_space, sheet=(((),), ()), degree=degree)
            self.gives((), told_space, sheet=(((), ()), ()), degree=degree)
        self.gives(((one, one),), told_space, sheet=sheet_of(mid), degree=0)
        self.gives(((one, none), (none, one)), degree_space, sheet=sheet_of(mid), degree=0)
        self.gives(((one, none), (none, one)), told_space, sheet=sheet_of(mid), degree=40)
        # Stages of one lot have equal FRACTIONS in each row.
        self.gives(((one, one),), degree_space, sheet=twins, degree=3)

    def test_all_rows_at_the_degree_of_the_lots(self):
        for seed in range(12):
            sheet = sheet_of(some_table(seed, 1 + seed % 2, 3))
            many = len(lots(sheet))
            self.assertEqual(len(told_space(sheet, many - 1)), many)
            space = degree_space(sheet, many - 1)
            for places in range(1, 5):
                for tree in trees_of(len(sheet[0]), places):
                    self.assertTrue(in_space(space, tree_row(sheet, tree)))

    def test_alike_to_and_least_degree(self):
        seen = set()
        for at, (table, other) in enumerate(pairs_of_tables()):
            least = least_degree(table, other)
            seen.add(least)
            self.gives(least, least_degree, table=table, other=other)
            self.assertEqual(least is None, is_alike(table, other))
            many = len(lots(both(table, other)))
            if least is not None:
                self.assertLessEqual(least, many - 1)
            for degree in (0, 1, 2, 3, many - 1, 40):
                if degree >= 0:
                    self.gives(least is None or degree < least, alike_to, table=table, other=other, degree=degree)
        self.assertTrue({None, 0, 1, 2} <= seen)

    def test_runs_on_changes_of_a_lesser_degree(self):
        for at, (table, other) in enumerate(pairs_of_tables()):
            least = least_degree(table, other)
            if least and is_explicit(table) and is_explicit(other):
                for seed in range(4):
                    change, start = some_change(seed, len(table[0]), 2), some_state(seed, 2)
                    change = tuple(tuple(tuple((powers, x) for powers, x in poly if sum(powers) < least) for poly in part)
                                   for part in change)
                    self.same(run_of(sheet_of(table), change, start, half), run_of(sheet_of(other), change, start, half))

    def test_degree_ladder(self):
        for table, other in pairs_of_tables():
            ladder = degree_ladder(table, other)
            self.gives(ladder, degree_ladder, table=table, other=other)
            self.assertEqual(ladder is None, is_alike(table, other))
            if ladder is not None:
                self.assertTrue(is_change(ladder) and is_ladder(ladder))
                self.assertEqual(len(ladder), len(table[0]))
                self.assertEqual(degree_of(ladder), least_degree(table, other))
                cells = len(ladder[0])
                self.assertLessEqual(cells, len(lots(both(table, other))))
                ends = [run_of(sheet_of(own), ladder, (none,) * cells, one) for own in (table, other)]
                self.assertNotEqual(ends[0], ends[1])

    def test_sharp_pair(self):
        for many in range(2, 9):
            found = sharp_pair(many)
            self.gives(found, sharp_pair, many=many)
            table, other = found
            for own in found:
                self.assertTrue(is_table(own, 1) and is_explicit(own))
                self.assertEqual(len(own[0][0]), many)
            self.gives(True, alike_to, table=table, other=other, degree=many - 2)
            self.gives(False, alike_to, table=table, other=other, degree=many - 1)
            self.gives(many - 1, least_degree, table=table, other=other)
            # By runs: a power of one cell, and one that is less.
            for power, same in ((many - 1, False), (many - 2, True)):
                change = (((((0,), one), ((power,), one)) if power else (((0,), one),),),)
                ends = [run_of(sheet_of(own), change, (one,), one) for own in found]
                self.assertEqual(ends[0] == ends[1], same)

    def test_big_fractions(self):
        table = scaled(mean, (BIG, BIG - 1))
        for other in (scaled(middle, (BIG, BIG - 1)), middle, scaled(mean, (BIG, BIG + 1))):
            paper = one_cell_paper(table, other)
            self.assertTrue(is_one_cell_paper(table, other, paper))
            ladder = degree_ladder(table, other)
            start = (none,) * len(ladder[0])
            self.assertNotEqual(run_of(sheet_of(table), ladder, start, one), run_of(sheet_of(other), ladder, start, one))
        self.assertEqual(least_degree(table, scaled(middle, (BIG, BIG - 1))), 2)

    def test_many_stages(self):
        table, other = some_table(1, 2, 8, 3, 3), some_table(2, 2, 8, 3, 3)
        self.assertTrue(is_one_cell_paper(table, other, one_cell_paper(table, other)))
        self.assertTrue(is_alike(some_table(3, 4, 14), hidden(some_table(3, 4, 14), 1)))


if __name__ == "__main__":
    unittest.main()
