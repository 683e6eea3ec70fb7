import itertools
import random
import unittest
from fractions import Fraction

from everychange.errors import CanNot, Unfit
from everychange.tables import (behind, beside, is_explicit, is_sheet, is_table, mixed, only, part_places, put_in_order,
                                renamed, repeated, rounds, scaled, sheet_of, spread, told, undone)
from tests.helpers import HALF, ONE, ZERO, Case, bent, pair, ratio

zero, half, unit, less = ZERO, HALF, ONE, (-1, 1)
euler = ((((zero,),),), ((unit,),))
mid = ((((zero, zero), (half, zero)),), ((zero, unit),))
implicit = ((((half,),),), ((unit,),))
none = (((),), ((),))
two = ((((zero, half), (zero, zero)), ((unit, zero), ((1, 3), less))), ((half, half), (zero, unit)))
BIG = 10 ** 30


def some_table(seed, parts, stages, top=2, bottom=2, explicit=False):
    """A TABLE with any FRACTIONS, 0 often among them."""
    source = random.Random(seed)
    def number(let):
        return pair(Fraction(source.randint(-top, top) * source.randint(0, 1) * let, source.randint(1, bottom)))
    matrices = tuple(tuple(tuple(number(not explicit or k < i) for k in range(stages)) for i in range(stages))
                     for _ in range(parts))
    return (matrices, tuple(tuple(number(True) for _ in range(stages)) for _ in range(parts)))


def some_sheet(seed, parts, stages, tells, explicit=False):
    tables = [some_table(seed + 1000 * at, parts, stages, explicit=explicit) for at in range(max(1, tells))]
    return (tables[0][0], tuple(table[1] for table in tables)[:tells])


class Kinds(Case):

    def test_is_table(self):
        self.is_one(is_table, [none, euler, mid, implicit], many=1)
        self.is_one(is_table, [two, (((), ()), ((), ()))], many=2)
        self.is_one(is_table, [some_table(1, 6, 3), some_table(2, 6, 20)], many=6)
        self.is_none(is_table, [none, euler, mid, sheet_of(two)], many=2)
        self.is_none(is_table, [two, sheet_of(euler), (mid[0], ()), (mid[0], euler[1]), (euler[0], mid[1]),
                                ((), ()), (), None, "table", (((),),), (((),), ((),), ()), (((zero,),), ((unit,),)),
                                ((((zero, zero),),), ((unit,),)), ((((zero,), (zero,)),), ((unit,),)),
                                ((((zero, zero), (half, (2, 4))),), ((zero, unit),))], many=1)
        self.is_none(is_table, [none, ((), ()), euler], many=0)
        self.only_unbent(is_table, mid, many=1)
        self.only_unbent(is_table, none, many=1)
        self.only_unbent(is_table, two, many=2)
        self.is_none(is_table, [((two[0][0], two[0][1][:1]), two[1]), ((two[0][0], two[0][1] * 2), two[1]),
                                ((two[0][0], ((ONE,), (ONE,))), two[1]), (two[0], (two[1][0], (ONE,)))], many=2)

    def test_is_sheet(self):
        self.is_one(is_sheet, [sheet_of(none), (((),), ()), (mid[0], ()), sheet_of(mid), rounds(mid, 3)], many=1)
        self.is_one(is_sheet, [sheet_of(two), some_sheet(1, 2, 17, 9)], many=2)
        self.is_none(is_sheet, [none, mid, two, sheet_of(two), (mid[0], (mid[1], euler[1])), (mid[0],), None, [],
                                ((), ()), ((), ((),)), (mid[0], mid[1], ())], many=1)
        self.is_none(is_sheet, [((), ()), (((),), ())], many=0)
        self.only_unbent(is_sheet, sheet_of(mid), many=1)
        self.is_none(is_sheet, bent((((),), (((),), ((),)))), many=1)

    def test_nested_deep(self):
        deep = (0, 1)
        for _ in range(98):
            deep = (deep,)
        for function in (is_table, is_sheet):
            self.is_none(function, [deep, (deep, deep), ((deep,), (deep,))], many=1)


class Orders(Case):

    def test_is_explicit(self):
        for table, worth in ((mid, True), (implicit, False), (euler, True), (none, True), (renamed(mid, (1, 0)), True),
                             (two, False), (undone(mid), False)):
            self.gives(worth, is_explicit, sheet=table)
            self.gives(worth, is_explicit, sheet=sheet_of(table))
        self.gives(True, is_explicit, sheet=(mid[0], ()))
        circle = ((((zero, unit), (zero, zero)), ((zero, zero), (unit, zero))), ())
        self.gives(False, is_explicit, sheet=circle)

    def test_explicit_beside_all_orders(self):
        for seed in range(60):
            sheet = some_sheet(seed, 1 + seed % 2, seed % 5, seed % 2)
            def fits(order):
                return all(x == zero for matrix in sheet[0] for at, i in enumerate(order)
                           for k, x in enumerate(matrix[i]) if k not in order[:at])
            orders = [order for order in itertools.permutations(range(seed % 5)) if fits(order)]
            self.gives(bool(orders), is_explicit, sheet=sheet)
            if orders:
                # Again and again the least place that is left: the least of all these orders.
                self.gives(renamed(sheet, min(orders)), put_in_order, sheet=sheet)
            else:
                self.raises(CanNot, put_in_order, sheet=sheet)

    def test_put_in_order(self):
        self.gives(mid, put_in_order, sheet=renamed(mid, (1, 0)))
        self.gives(sheet_of(mid), put_in_order, sheet=renamed(sheet_of(mid), (1, 0)))
        self.gives(mid, put_in_order, sheet=mid)
        self.gives(none, put_in_order, sheet=none)
        self.gives((((),), ()), put_in_order, sheet=(((),), ()))
        self.raises(CanNot, put_in_order, sheet=implicit)
        self.raises(CanNot, put_in_order, sheet=sheet_of(implicit))

    def test_renamed(self):
        turned = ((((zero, half), (zero, zero)),), ((unit, zero),))
        self.gives(turned, renamed, sheet=mid, order=(1, 0))
        self.gives(sheet_of(turned), renamed, sheet=sheet_of(mid), order=(1, 0))
        self.gives(none, renamed, sheet=none, order=())
        self.gives((((),), (((),), ((),))), renamed, sheet=(((),), (((),), ((),))), order=())
        table, order = some_table(3, 2, 3), (2, 0, 1)
        matrices, weights = renamed(table, order)
        for part, i, k in itertools.product(range(2), range(3), range(3)):
            self.same(matrices[part][i][k], table[0][part][order[i]][order[k]])
            self.same(weights[part][k], table[1][part][order[k]])

    def test_wrong_orders(self):
        for order in ((), (0,), (1,), (0, 0), (1, 1), (0, 2), (-1, 0), (0, 1, 2), (0, 1, 1), (0, 1, 0)):
            self.raises(Unfit, renamed, sheet=mid, order=order)
            self.raises(Unfit, renamed, sheet=sheet_of(mid), order=order)
        self.raises(Unfit, renamed, sheet=none, order=(0,))

    def test_part_places(self):
        self.gives([((0, 1), (1, 2))], part_places, sheet=mid)
        self.gives([((0, 1), (1, 2))], part_places, sheet=sheet_of(mid))
        self.gives([((1, 2), (0, 1)), ((1, 1), (-2, 3))], part_places, sheet=two)
        self.gives([()], part_places, sheet=none)


class Made(Case):

    def test_behind(self):
        self.gives(((((zero, zero, zero), (half, zero, zero), (zero, unit, half)),), ((zero, unit, unit),)),
                   behind, table=mid, other=implicit)
        self.gives(((((half, zero, zero), (unit, zero, zero), (unit, half, zero)),), ((unit, zero, unit),)),
                   behind, table=implicit, other=mid)
        for table in (mid, euler, none):
            self.gives(table, behind, table=table, other=none)
            self.gives(table, behind, table=none, other=table)
        matrices, weights = behind(two, two)
        self.same(matrices[1][2], two[1][1] + two[0][1][0])
        self.same(matrices[0][0], two[0][0][0] + (zero, zero))
        self.same(weights, (two[1][0] * 2, two[1][1] * 2))

    def test_scaled(self):
        self.gives(((((zero, zero), ((1, 4), zero)),), ((zero, half),)), scaled, table=mid, x=half)
        self.gives(((((zero, zero), (zero, zero)),), ((zero, zero),)), scaled, table=mid, x=zero)
        self.gives(none, scaled, table=none, x=half)

    def test_undone(self):
        self.gives(((((less,),),), ((less,),)), undone, table=euler)
        self.gives(mid, undone, table=undone(mid))
        self.gives(((((zero, less), (half, less)),), ((zero, less),)), undone, table=mid)
        self.gives(none, undone, table=none)

    def test_mixed(self):
        halves = repeated(scaled(euler, half), 2)
        self.gives((((1, 1), (1, 1), (-1, 1)),), lambda tables, shares: mixed(tables, shares)[1],
                   tables=(halves, euler), shares=((2, 1), (-1, 1)))
        self.gives(((((zero, zero, zero), (half, zero, zero), (zero, zero, half)),), ((zero, (1, 3), (2, 3)),)),
                   mixed, tables=(mid, implicit), shares=((1, 3), (2, 3)))
        self.gives(mid, mixed, tables=(mid,), shares=(unit,))
        self.gives(mid, mixed, tables=(none, mid, none), shares=(half, unit, (-1, 2)))
        for shares in ((), (half, half), (half,), (zero,), (unit, zero)):
            self.raises(Unfit, mixed, tables=(mid,), shares=shares)
        for shares in ((unit,), (unit, unit), (half, (1, 3)), (unit, zero, zero)):
            self.raises(Unfit, mixed, tables=(mid, euler), shares=shares)

    def test_beside(self):
        first, second = rounds(euler, 2), sheet_of(implicit)
        self.gives(((((zero, zero, zero), (unit, zero, zero), (zero, zero, half)),),
                    (((unit, zero, zero),), ((unit, unit, zero),), ((zero, zero, unit),))),
                   beside, sheet=first, other=second)
        self.gives(first, beside, sheet=first, other=(((),), ()))
        self.gives(first, beside, sheet=(((),), ()), other=first)
        self.gives((mid[0], ()), beside, sheet=(mid[0], ()), other=(((),), ()))
        self.gives((mid[0], (((zero, zero),),)), beside, sheet=sheet_of(none), other=(mid[0], ()))

    def test_told(self):
        sheet = rounds(euler, 2)
        self.gives((sheet[0], ((unit, zero),)), told, sheet=sheet, number=0)
        self.gives(repeated(euler, 2), told, sheet=sheet, number=1)
        for number in (2, -1, 10 ** 20):
            self.no_place(number, told, sheet=sheet, number=number)
        self.no_place(1, told, sheet=sheet_of(mid), number=1)
        self.no_place(0, told, sheet=(mid[0], ()), number=0)
        self.gives((mid[0], (mid[1],)), sheet_of, table=mid)
        self.gives((((),), (((),),)), sheet_of, table=none)

    def test_repeated_and_rounds(self):
        self.gives(((((zero, zero), (half, zero)),), ((half, half),)), repeated, table=scaled(euler, half), n=2)
        self.gives(none, repeated, table=mid, n=0)
        self.gives((((), ()), ((), ())), repeated, table=two, n=0)
        self.gives(two, repeated, table=two, n=1)
        self.gives(behind(behind(two, two), two), repeated, table=two, n=3)
        self.gives((((),), ()), rounds, table=mid, n=0)
        self.gives((((), ()), ()), rounds, table=two, n=0)
        self.gives(sheet_of(two), rounds, table=two, n=1)
        self.gives(((((1, 1), (0, 1)),), (((1, 1), (1, 1)),)), lambda table, n: rounds(table, n)[1], table=euler, n=2)
        self.gives((none[0], (none[1],) * 3), rounds, table=none, n=3)
        sheet = rounds(two, 12)
        self.assertEqual(len(sheet[1]), 12)
        self.same(told(sheet, 11), repeated(two, 12))
        self.same(sheet[1][4], tuple(row * 5 + (zero,) * 14 for row in two[1]))

    def test_spread_and_only(self):
        self.gives((mid[0] * 3, mid[1] * 3), spread, table=mid, many=3)
        self.gives(mid, spread, table=mid, many=1)
        self.gives((((),) * 4, ((),) * 4), spread, table=none, many=4)
        self.raises(Unfit, spread, table=two, many=2)
        self.gives(((two[0][1],), (two[1][1],)), only, table=two, part=1)
        self.gives(mid, only, table=mid, part=0)
        for part in (2, -1):
            self.no_place(part, only, table=two, part=part)
        self.no_place(1, only, table=none, part=1)


class Big(Case):

    def test_big_fractions(self):
        big, small = (BIG, BIG - 1), (1 - BIG, BIG)
        table = ((((big,),),), ((small,),))
        matrices, weights = scaled(table, big)
        self.assertEqual(ratio(matrices[0][0][0]), ratio(big) ** 2)
        self.assertEqual(ratio(undone(table)[0][0][0][0]), ratio(big) - ratio(small))
        much = scaled(scaled(table, big), big)
        self.assertTrue(is_table(much, 1))
        self.same(undone(undone(much)), much)
        mix = mixed((table, table), (big, pair(1 - ratio(big))))
        self.assertEqual(sum(ratio(x) for x in mix[1][0]), ratio(small))


if __name__ == "__main__":
    unittest.main()
