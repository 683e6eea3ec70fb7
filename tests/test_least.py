import itertools
import random
import unittest
from fractions import Fraction

from everychange.engine import run_of
from everychange.least import (blocks, hanging, is_least, is_matching, least_sheet, least_table, matching, must_solve,
                               solved_at_once, split_stage, stages_to)
from everychange.lots import lots
from everychange.tables import beside, is_explicit, renamed, sheet_of, told
from everychange.trees import trees_of
from everychange.weights import weight
from tests.helpers import HALF, ONE, ZERO, Case, bent, pair
from tests.test_changes import some_change, some_state
from tests.test_lots import sheets
from tests.test_tables import implicit, mid, none, some_sheet, some_table, two

o, e, half, fourth = ZERO, ONE, HALF, (1, 4)
twin = ((((half, o, o), (fourth, fourth, o), (e, o, o)),), (((fourth, (3, 4), o),),))
gone = ((((o, o, o), (half, o, o), (half, o, o)),), (((e, e, (-1, 1)),),))
duo = ((((o, half), (half, o)),), (((half, half),),))
rows = ((o, o, o, o), (e, o, o, o), (o, e, o, o), (half, half, o, o))
wide = ((rows,), ((half, fourth, fourth, o),))
whole = ((rows,), (((half, o, o, half),), wide[1]))
empty_sheet = (((),), ())


def hangs(sheet, stage, other):
    return any(matrix[stage][other] != o for matrix in sheet[0])


def reached(sheet, stages):
    found = set(stages)
    while True:
        more = {other for stage in found for other in range(len(sheet[0][0])) if hangs(sheet, stage, other)}
        if more <= found:
            return found
        found |= more


def looks_hanging(sheet):
    straight = {k for tell in sheet[1] for row in tell for k, x in enumerate(row) if x != o}
    return tuple(sorted(reached(sheet, straight)))


def disguised(seed, sheet):
    """The SHEET with stages split, stages on which nothing hangs, and other places; it tells the same."""
    source = random.Random(seed)
    for _ in range(source.randint(1, 3)):
        stages = len(sheet[0][0])
        if stages and source.randint(0, 2):
            share = pair(Fraction(source.randint(-3, 3), source.randint(1, 3)))
            sheet = split_stage(sheet, source.randrange(stages), share)
        else:
            extra = tuple(tuple(row + (o,) for row in matrix)
                          + (tuple(source.choice((o, half, e)) for _ in range(stages + 1)),) for matrix in sheet[0])
            sheet = (extra, tuple(tuple(row + (o,) for row in tell) for tell in sheet[1]))
    order = list(range(len(sheet[0][0])))
    source.shuffle(order)
    return renamed(sheet, tuple(order))


class Least(Case):

    def test_the_examples(self):
        small = (((((1, 2),),),), ((((1, 1),),),))
        self.gives(small, least_sheet, sheet=twin)
        self.gives((0, 1), hanging, sheet=twin)
        self.gives((0, 0, None), stages_to, sheet=twin)
        self.gives(False, is_least, sheet=twin)
        self.gives((((((0, 1),),),), ((((1, 1),),),)), least_sheet, sheet=gone)
        self.gives((0, 1, 2), hanging, sheet=gone)
        self.gives((0, None, None), stages_to, sheet=gone)
        self.gives(small, least_sheet, sheet=duo)
        self.gives(1, must_solve, sheet=duo)
        self.gives((0, 1, 2), hanging, sheet=sheet_of(wide))
        self.gives(0, must_solve, sheet=whole)
        self.assertEqual(len(least_table(wide)[0][0]), 3)

    def test_hanging(self):
        self.gives((), hanging, sheet=empty_sheet)
        self.gives((), hanging, sheet=(mid[0], ()))
        for sheet in sheets():
            self.gives(looks_hanging(sheet), hanging, sheet=sheet)

    def test_without_stages_or_tells(self):
        self.gives(empty_sheet, least_sheet, sheet=empty_sheet)
        self.gives(empty_sheet, least_sheet, sheet=(mid[0], ()))
        self.gives(sheet_of(none), least_sheet, sheet=sheet_of(none))
        self.gives(none, least_table, table=none)
        self.gives(none, least_table, table=(mid[0], ((o, o),)))
        self.gives((None, None), stages_to, sheet=(mid[0], ()))
        self.gives((), stages_to, sheet=empty_sheet)
        self.gives(True, is_least, sheet=empty_sheet)
        self.gives(False, is_least, sheet=(mid[0], ()))
        self.gives((), matching, sheet=sheet_of(none), other=sheet_of(none))
        self.gives(True, is_matching, sheet=empty_sheet, other=empty_sheet, thing=())
        self.gives((), blocks, sheet=empty_sheet)
        self.gives(0, solved_at_once, sheet=empty_sheet)

    def test_least_by_its_two_steps(self):
        for sheet in sheets():
            parting = lots(sheet)
            small = least_sheet(sheet)
            to = stages_to(sheet)
            self.gives(small, least_sheet, sheet=sheet)
            self.assertEqual([to[lot[0]] for lot in parting if to[lot[0]] is not None], list(range(len(small[0][0]))))
            for lot in parting:
                self.assertEqual(len({to[stage] for stage in lot}), 1)
            self.gives(True, is_least, sheet=small)
            self.gives(small, least_sheet, sheet=small)
            self.gives(tuple(range(len(small[0][0]))), stages_to, sheet=small)
            own = len(parting) == len(sheet[0][0]) == len(looks_hanging(sheet))
            self.gives(own, is_least, sheet=sheet)
            self.assertEqual(own, small == sheet)
            self.gives(to, stages_to, sheet=sheet)
            for tell in range(len(sheet[1])):
                if len(sheet[0]) == 1:
                    for tree in trees_of(1, 3) + trees_of(1, 4):
                        self.same(weight(told(sheet, tell), tree), weight(told(small, tell), tree))

    def test_disguised(self):
        for seed in range(40):
            sheet = some_sheet(seed, 1 + seed % 2, seed % 4, 1 + seed % 2, explicit=seed % 3 > 0)
            other = disguised(seed, sheet)
            small, second = least_sheet(sheet), least_sheet(other)
            order = matching(small, second)
            self.assertIsNotNone(order)
            self.same(renamed(small, order), second)
            self.same(matching(second, small), tuple(order.index(stage) for stage in range(len(order))))
            self.assertEqual(must_solve(sheet), must_solve(other))
            if is_explicit(sheet):
                self.assertTrue(is_explicit(second))

    def test_least_table(self):
        for seed in range(10):
            table = some_table(seed, 1 + seed % 2, 3)
            self.gives(told(least_sheet(sheet_of(table)), 0), least_table, table=table)


class Matching(Case):

    def test_beside_all_orders(self):
        for seed in range(60):
            stages = seed % 5
            source = random.Random(seed)
            sheet = ((tuple(tuple(source.choice((o, e)) for _ in range(stages)) for _ in range(stages)),),
                     (((half,) * stages,),))
            order = list(range(stages))
            source.shuffle(order)
            other = renamed(sheet, order)
            if seed % 3 == 0 and stages:
                spoilt = [[list(row) for row in matrix] for matrix in other[0]]
                spoilt[0][source.randrange(stages)][source.randrange(stages)] = source.choice((o, e))
                other = (tuple(tuple(tuple(row) for row in matrix) for matrix in spoilt), other[1])
            good = [own for own in itertools.permutations(range(stages)) if renamed(sheet, own) == other]
            found = matching(sheet, other)
            self.assertTrue(found in good if good else found is None)
            self.gives(found, matching, sheet=sheet, other=other)
            for own in itertools.permutations(range(stages)):
                self.same(is_matching(sheet, other, own), own in good)

    def test_where_there_is_none(self):
        for sheet, other in ((sheet_of(mid), sheet_of(implicit)), (sheet_of(mid), (mid[0], ())),
                             (sheet_of(mid), (mid[0], (mid[1], mid[1]))), (sheet_of(none), empty_sheet),
                             (duo, (duo[0], (((half, fourth),),))), (sheet_of(two), sheet_of((two[0], two[1][::-1])))):
            self.gives(None, matching, sheet=sheet, other=other)
            self.gives(None, matching, sheet=other, other=sheet)
            self.is_none(is_matching, [(), (0,), (0, 1), (1, 0)], sheet=sheet, other=other)

    def circles(self, *sizes):
        matrix, ahead = [], 0
        for size in sizes:
            for at in range(size):
                matrix.append(tuple(e if k in (ahead + (at + 1) % size, ahead + (at - 1) % size) else o
                                    for k in range(sum(sizes))))
            ahead += size
        return ((tuple(matrix),), ())

    def test_stages_that_look_alike(self):
        source = random.Random(7)
        for sizes in ((3, 3, 3, 3, 4), (4, 4, 4, 4), (16,), (8, 8), (3, 3, 5, 5), (3, 3, 3, 7)):
            sheet, order = self.circles(*sizes), list(range(16))
            source.shuffle(order)
            other = renamed(sheet, order)
            self.assertEqual(renamed(sheet, matching(sheet, other)), other)
            for more in ((16,), (6, 10), (3, 13), (4, 12)):
                if sorted(more) != sorted(sizes):
                    self.assertIsNone(matching(sheet, self.circles(*more)))

    def squares(self, moves):
        places = list(itertools.product(range(4), range(4)))
        def meet(one, other):
            return moves((one[0] - other[0]) % 4, (one[1] - other[1]) % 4)
        return ((tuple(tuple(e if meet(one, other) else o for other in places) for one in places),), ())

    def test_stages_that_look_alike_two_by_two(self):
        # Two graphs of 16 places in which each two places have equally many neighbours in common.
        rook = self.squares(lambda x, y: (x == 0) != (y == 0))
        other = self.squares(lambda x, y: (x, y) in ((0, 1), (0, 3), (1, 0), (3, 0), (1, 1), (3, 3)))
        self.assertIsNone(matching(rook, other))
        order = tuple(random.Random(1).sample(range(16), 16))
        for sheet in (rook, other):
            self.assertEqual(renamed(sheet, matching(sheet, renamed(sheet, order))), renamed(sheet, order))

    def test_is_matching(self):
        sheet = some_sheet(3, 2, 3, 1)
        other = renamed(sheet, (2, 0, 1))
        self.gives(True, is_matching, sheet=sheet, other=other, thing=(2, 0, 1))
        self.is_none(is_matching, bent((2, 0, 1)), sheet=sheet, other=other)
        self.is_none(is_matching, [(), (2, 0), (0, 1, 2), (2, 0, 1, 3), (2, 0, 0), (3, 0, 1), (-1, 0, 1), (2, 0, 1, 1),
                                   None, "201", ((2,), (0,), (1,))], sheet=sheet, other=other)

    def test_rigid_least_sheets_match_in_one_way(self):
        for seed in range(12):
            small = least_sheet(some_sheet(seed, 1, 4, 1))
            good = [own for own in itertools.permutations(range(len(small[0][0]))) if renamed(small, own) == small]
            self.assertEqual(good, [tuple(range(len(small[0][0])))])


class Blocks(Case):

    def test_the_examples(self):
        self.gives(((0, 1),), blocks, sheet=duo)
        self.gives(2, solved_at_once, sheet=duo)
        self.gives(((0,), (1,), (2,), (3,)), blocks, sheet=whole)
        self.gives(((0,),), blocks, sheet=sheet_of(implicit))
        self.gives(1, solved_at_once, sheet=sheet_of(implicit))
        self.gives(0, solved_at_once, sheet=sheet_of(mid))

    def looks_blocks(self, sheet):
        stages = range(len(sheet[0][0]))
        over = [reached(sheet, {other for other in stages if hangs(sheet, stage, other)}) for stage in stages]
        left = {tuple(k for k in stages if k == i or (k in over[i] and i in over[k])) for i in stages}
        found, done = [], set()
        while left:
            found.append(min(block for block in left if all(over[i] <= done | set(block) for i in block)))
            done |= set(found[-1])
            left.discard(found[-1])
        sizes = [len(block) for block in found if len(block) > 1 or hangs(sheet, block[0], block[0])]
        return tuple(found), max(sizes, default=0)

    def test_blocks(self):
        for sheet in list(sheets()) + [some_sheet(seed, 1, 7, 0) for seed in range(30)]:
            found, most = self.looks_blocks(sheet)
            self.gives(found, blocks, sheet=sheet)
            self.gives(most, solved_at_once, sheet=sheet)
            self.gives(self.looks_blocks(least_sheet(sheet))[1], must_solve, sheet=sheet)

    def test_their_order(self):
        # 3 hangs on nothing, 0 on 3, 1 and 2 on one another, 4 on 1.
        matrix = ((o, o, o, e, o), (o, o, e, o, o), (o, e, o, o, o), (o,) * 5, (o, e, o, o, o))
        self.gives(((1, 2), (3,), (0,), (4,)), blocks, sheet=((matrix,), ()))
        self.gives(0, must_solve, sheet=((matrix,), ()))


class Split(Case):

    def test_the_example(self):
        self.gives((((((o, o, o), (half, o, o), (half, o, o)),)), ((((0, 1), (1, 3), (2, 3)),),)), split_stage,
                   sheet=sheet_of(mid), stage=1, share=(1, 3))
        self.gives((0, 1), matching, sheet=least_sheet(split_stage(sheet_of(mid), 1, (1, 3))), other=sheet_of(mid))

    def test_a_stage_that_hangs_on_itself(self):
        self.gives((((((1, 6), (1, 3)), ((1, 6), (1, 3))),), ((((1, 3), (2, 3)),),)), split_stage,
                   sheet=sheet_of(implicit), stage=0, share=(1, 3))
        self.gives((((((1, 2), o), ((1, 2), o)),), (((e, o),),)), split_stage, sheet=sheet_of(implicit), stage=0, share=e)

    def test_it_tells_the_same(self):
        for seed in range(10):
            sheet = some_sheet(seed, 2, 3, 2, explicit=True)
            change, start = some_change(seed, 2, 2), some_state(seed, 2)
            for stage, share in itertools.product(range(3), (o, half, (-7, 3), (5, 1))):
                other = split_stage(sheet, stage, share)
                self.same(run_of(other, change, start, half), run_of(sheet, change, start, half))
                self.assertIn((stage, 3), [lot for lot in [(stage, 3)] if any(set(lot) <= set(own) for own in lots(other))])

    def test_stages_that_there_are_not(self):
        for stage in (2, -1):
            self.no_place(stage, split_stage, sheet=duo, stage=stage, share=half)
        self.no_place(0, split_stage, sheet=empty_sheet, stage=0, share=half)

    def test_beside_and_bent(self):
        both = beside(duo, twin)
        self.same(least_sheet(both)[1][0], least_sheet(both)[1][1])
        self.is_none(is_matching, bent((0,)), sheet=sheet_of(implicit), other=sheet_of(implicit))


if __name__ == "__main__":
    unittest.main()
