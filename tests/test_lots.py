import itertools
import unittest

from everychange.engine import points_of
from everychange.errors import TooMuch, Unfit
from everychange.lots import (even_partings, is_even, is_finer, is_parting, joined_parting, laid_out, lot_of, lot_sheet,
                              lots, lots_within, parted_after, parting_steps)
from everychange.ratios import space_of
from everychange.tables import beside, is_explicit, renamed, sheet_of
from everychange.trees import trees_of
from everychange.weights import tree_row, weight
from tests.helpers import HALF, ONE, ZERO, Case, bent, pair, ratio
from tests.test_changes import some_change, some_state
from tests.test_tables import implicit, mid, some_sheet

none, one, half, less = ZERO, ONE, HALF, (1, 4)
twins = ((((half, none), (less, less)),), ((((1, 3), (2, 3)),),))
chain = ((((none,) * 4, (one, none, none, none), (none, one, none, none), (none, none, one, none)),), ())
empty_sheet = (((),), ())


def all_partings(stages):
    """All PARTINGS of so many stages."""
    found = [[]]
    for stage in range(stages):
        further = []
        for lots_there in found:
            further.append(lots_there + [(stage,)])
            for at, lot in enumerate(lots_there):
                further.append(lots_there[:at] + [lot + (stage,)] + lots_there[at + 1:])
        found = further
    return sorted(tuple(sorted(lots_there)) for lots_there in found)


def looks_even(sheet, parting):
    for matrix, lot, other in itertools.product(sheet[0], parting, parting):
        if len({sum(ratio(matrix[i][k]) for k in other) for i in lot}) > 1:
            return False
    return True


def looks_finer(parting, second):
    return all(any(set(lot) <= set(other) for other in second) for lot in parting)


def sheets():
    """SHEETS with stages that are alike more often than not."""
    for seed in range(24):
        yield some_sheet(seed, 1 + seed % 2, seed % 5, seed % 3, explicit=seed % 4 == 0)
    for seed in range(12):
        small = some_sheet(seed, 1 + seed % 2, 1 + seed % 2, 1 + seed % 2)
        yield beside(small, renamed(small, tuple(reversed(range(1 + seed % 2)))))
    yield from (twins, chain, empty_sheet, beside(twins, twins), (((), ()), (((), ()),)),
                ((((none,) * 4,) * 4,), ()), ((((one, one, none), (none, one, one), (one, none, one)),), ()))


class Partings(Case):

    def test_is_parting(self):
        self.is_one(is_parting, all_partings(4), sheet=chain)
        self.is_one(is_parting, [()], sheet=empty_sheet)
        self.is_none(is_parting, [((),), (0,), None, [], ((0,),)], sheet=empty_sheet)
        self.is_none(is_parting, [(), ((0, 1, 2),), ((0, 1), (1, 2, 3)), ((0, 1), (3, 2)), ((1,), (0,), (2,), (3,)),
                                  ((2, 3), (0, 1)), ((0, 1), (), (2, 3)), ((), (0, 1, 2, 3)), ((0, 1, 2, 3, 4),),
                                  ((-1, 0), (1, 2, 3)), (0, 1, 2, 3), ((0, 0, 1), (2, 3)), ((0, 1, 2), (4,)), "0123",
                                  ((0, 1), (2, 3), (2, 3)), ((0, 2), (1, 3), (4,))], sheet=chain)
        self.only_unbent(is_parting, ((0, 2), (1,), (3,)), sheet=chain)
        self.is_none(is_parting, bent(((0, 1),)), sheet=twins)

    def test_is_even(self):
        self.gives(False, is_even, sheet=chain, parting=((0,), (1, 2, 3)))
        self.gives(True, is_even, sheet=twins, parting=((0, 1),))
        self.gives(True, is_even, sheet=empty_sheet, parting=())
        for sheet in sheets():
            for parting in all_partings(len(sheet[0][0]))[::3]:
                self.same(is_even(sheet, parting), looks_even(sheet, parting))

    def test_is_finer(self):
        self.gives(True, is_finer, parting=((0,), (1,), (2, 3)), second=((0,), (1, 2, 3)))
        self.gives(False, is_finer, parting=((0,), (1, 2, 3)), second=((0,), (1,), (2, 3)))
        self.gives(True, is_finer, parting=(), second=())
        for parting, second in itertools.product(all_partings(4), all_partings(4)):
            self.same(is_finer(parting, second), looks_finer(parting, second))

    def test_joined(self):
        self.gives(((0, 1, 2), (3,)), joined_parting, parting=((0, 1), (2,), (3,)), second=((0,), (1, 2), (3,)))
        self.gives((), joined_parting, parting=(), second=())
        partings = all_partings(4)
        for parting, second in itertools.product(partings, partings):
            above = [own for own in partings if looks_finer(parting, own) and looks_finer(second, own)]
            least = [own for own in above if all(looks_finer(own, other) for other in above)]
            self.same([joined_parting(parting, second)], least)


class Lots(Case):

    def test_the_examples(self):
        self.gives(((0, 1),), lots, sheet=twins)
        self.gives((((((1, 2),),),), ((((1, 1),),),)), lot_sheet, sheet=twins, parting=((0, 1),))
        self.gives([((0,), (1,)), ((0, 1),)], even_partings, sheet=twins)
        self.gives([((0, 1, 2, 3),), ((0,), (1, 2, 3)), ((0,), (1,), (2, 3)), ((0,), (1,), (2,), (3,))],
                   parting_steps, sheet=chain)
        self.gives(3, parted_after, sheet=chain, stage=2, other=3)
        self.gives((half, one, half), laid_out, parting=((0, 2), (1,)), row=(half, one))
        self.no_place(4, lot_of, sheet=chain, stage=4)

    def test_beside_all_partings(self):
        for sheet in sheets():
            partings = all_partings(len(sheet[0][0]))
            even = [parting for parting in partings if looks_even(sheet, parting)]
            self.gives(even, even_partings, sheet=sheet)
            coarsest = [own for own in even if all(looks_finer(other, own) for other in even)]
            self.same([lots(sheet)], coarsest)
            for parting in partings[::4]:
                within = [own for own in even if looks_finer(own, parting)]
                self.same([lots_within(sheet, parting)],
                          [own for own in within if all(looks_finer(other, own) for other in within)])
            self.gives(lots(sheet), lots, sheet=sheet)
            self.gives(lots(sheet), lots_within, sheet=sheet, parting=(tuple(range(len(sheet[0][0]))),) * bool(sheet[0][0]))

    def test_how_many_stages_are_too_many(self):
        still = ((((none,) * 7,) * 7,), ())
        self.assertEqual(len(even_partings(still)), 877)
        self.gives(all_partings(7), even_partings, sheet=still)
        self.raises(TooMuch, even_partings, sheet=((((none,) * 8,) * 8,), ()))
        self.gives([()], even_partings, sheet=empty_sheet)

    def test_steps(self):
        self.gives([()], parting_steps, sheet=empty_sheet)
        self.gives([((0, 1),)], parting_steps, sheet=twins)
        for sheet in sheets():
            stages = range(len(sheet[0][0]))
            expected = [(tuple(stages),)] if stages else [()]
            while True:
                before = expected[-1]
                place = {stage: at for at, lot in enumerate(before) for stage in lot}
                def is_kept_together(i, j):
                    return place[i] == place[j] and all(
                        sum(ratio(matrix[i][k]) for k in lot) == sum(ratio(matrix[j][k]) for k in lot)
                        for matrix in sheet[0] for lot in before)
                after = tuple(sorted({tuple(j for j in stages if is_kept_together(i, j)) for i in stages}))
                if after == before:
                    break
                expected.append(after)
            self.gives(expected, parting_steps, sheet=sheet)
            self.same(lots(sheet), expected[-1])
            for stage, other in itertools.product(stages, stages):
                found = [at for at, parting in enumerate(expected)
                         if not any(stage in lot and other in lot for lot in parting)]
                self.same(parted_after(sheet, stage, other), found[0] if found else None)

    def test_steps_are_levels_of_trees(self):
        for stage, other in itertools.combinations(range(4), 2):
            tall, levels = (0, ()), 1
            while tree_row(chain, tall)[stage] == tree_row(chain, tall)[other]:
                tall, levels = (0, (tall,)), levels + 1
            self.gives(levels - 1, parted_after, sheet=chain, stage=stage, other=other)

    def test_stages_that_there_are_not(self):
        for stage in (4, -1, 10 ** 20):
            self.no_place(stage, lot_of, sheet=chain, stage=stage)
            self.no_place(stage, parted_after, sheet=chain, stage=stage, other=0)
            self.no_place(stage, parted_after, sheet=chain, stage=1, other=stage)
            self.no_place(stage, parted_after, sheet=chain, stage=stage, other=9)
        self.no_place(0, lot_of, sheet=empty_sheet, stage=0)
        self.gives(None, parted_after, sheet=chain, stage=2, other=2)

    def test_lot_of(self):
        for sheet in sheets():
            for at, lot in enumerate(lots(sheet)):
                for stage in lot:
                    self.gives(at, lot_of, sheet=sheet, stage=stage)

    def test_lot_sheet(self):
        self.raises(Unfit, lot_sheet, sheet=chain, parting=((0,), (1, 2, 3)))
        self.gives(empty_sheet, lot_sheet, sheet=empty_sheet, parting=())
        self.gives((((), ()), (((), ()),)), lot_sheet, sheet=(((), ()), (((), ()),)), parting=())
        for sheet in sheets():
            for parting in all_partings(len(sheet[0][0])):
                if not looks_even(sheet, parting):
                    self.raises(Unfit, lot_sheet, sheet=sheet, parting=parting)
                    continue
                def sums(row):
                    return tuple(pair(sum(ratio(row[k]) for k in lot)) for lot in parting)
                expected = (tuple(tuple(sums(matrix[lot[0]]) for lot in parting) for matrix in sheet[0]),
                            tuple(tuple(sums(row) for row in tell) for tell in sheet[1]))
                self.same(lot_sheet(sheet, parting), expected)
                if is_explicit(sheet):
                    self.assertTrue(is_explicit(lot_sheet(sheet, lots(sheet))))

    def test_laid_out(self):
        self.gives((), laid_out, parting=(), row=())
        self.gives((none, half, half, none, one), laid_out, parting=((0, 3), (1, 2), (4,)), row=(none, half, one))


class Guarantees(Case):

    def test_rows_of_trees_span_the_rows_of_lots(self):
        for sheet in sheets():
            stages = len(sheet[0][0])
            if not 0 < stages < 4 or len(sheet[0]) > 1:
                continue
            rows = tuple(tree_row(sheet, tree) for places in range(1, 6) for tree in trees_of(1, places))
            parting = lots(sheet)
            plain = tuple(laid_out(parting, tuple(one if at == k else none for k in range(len(parting))))
                          for at in range(len(parting)))
            self.same(space_of(rows, stages), space_of(plain, stages))

    def test_stages_of_one_lot_have_one_point(self):
        for seed in range(6):
            small = some_sheet(seed, 2, 3, 1, explicit=True)
            sheet = beside(small, renamed(small, (2, 0, 1)))
            points = points_of(sheet, some_change(seed, 2, 2), some_state(seed, 2), (3, 7))
            for lot in lots(sheet):
                self.assertEqual(len({points[stage] for stage in lot}), 1)

    def test_lots_weigh_the_same(self):
        for sheet in (twins, beside(sheet_of(implicit), sheet_of(mid))):
            small = lot_sheet(sheet, lots(sheet))
            for places in range(1, 5):
                for tree in trees_of(1, places):
                    self.same(weight((sheet[0], sheet[1][0]), tree), weight((small[0], small[1][0]), tree))


if __name__ == "__main__":
    unittest.main()
