import random
import unittest
from fractions import Fraction

from everychange.alike import sharp_pair
from everychange.changes import degree_of, is_change, is_ladder, tree_change
from everychange.engine import run_of, series_run, unlike_at
from everychange.leastpower import (first_miss, is_parting_ladder, least_tree, order_to, parting_ladder, parting_power,
                                    place_space, space_to)
from everychange.lots import lots
from everychange.polys import poly_through, poly_value
from everychange.ratios import is_space, space_of
from everychange.tables import beside, mixed, repeated, scaled, sheet_of
from everychange.trees import is_tree, made_tree, places_of_tree, trees_of
from everychange.weights import misses, tree_row, weight
from tests.helpers import HALF, ONE, ZERO, Case, pair
from tests.test_alike import hidden, pairs_of_tables
from tests.test_changes import some_change, some_state
from tests.test_tables import euler, implicit, mid, none, some_sheet, some_table, two
from tests.test_weights import kutta

o, e, half, fourth = ZERO, ONE, HALF, (1, 4)
BIG = 10 ** 30
ends = ((((o, o), (e, o)),), ((half, half),))
rows = ((o, o, o, o), (e, o, o, o), (o, e, o, o), (half, half, o, o))
late, wide = ((rows,), ((half, o, o, half),)), ((rows,), ((half, fourth, fourth, o),))
whole = ((rows,), (late[1], wide[1]))
square = (((((0, 0, 0), e),), (((1, 0, 0), e),), (((0, 2, 0), e),)),)
no_table = (((),), ((),))


def places_of(parts):
    """To how many places all TREES are looked at."""
    return {1: 6, 2: 4, 3: 3}[parts]


class Spaces(Case):

    def test_the_examples(self):
        self.gives([1, 2, 3, 3, 4], lambda sheet: [len(space_to(sheet, many)) for many in (1, 2, 3, 4, 5)], sheet=whole)
        self.gives((((0, 1), (1, 1), (1, 1), (1, 1)),), place_space, sheet=whole, many=2)

    def test_beside_all_trees(self):
        for seed in range(36):
            parts = 1 + seed % 3
            sheet = some_sheet(seed, parts, seed % 5, seed % 3, explicit=seed % 2 == 0)
            if seed % 4 == 0:
                sheet = sheet_of(hidden((sheet[0], some_table(seed, parts, seed % 5)[1]), seed))
            stages, so_far = len(sheet[0][0]), []
            for many in range(1, places_of(parts) + 1):
                found = [tree_row(sheet, tree) for tree in trees_of(parts, many)]
                so_far.extend(found)
                self.gives(space_of(found, stages), place_space, sheet=sheet, many=many)
                self.gives(space_of(so_far, stages), space_to, sheet=sheet, many=many)

    def test_edges(self):
        for many in (1, 2, 40):
            self.gives((), place_space, sheet=(((),), ()), many=many)
            self.gives((), space_to, sheet=sheet_of(no_table), many=many)
            self.gives(((e,),), space_to, sheet=sheet_of(implicit), many=many)
            self.gives(((e,),), place_space, sheet=sheet_of(implicit), many=many)
        self.gives(((e, e),), place_space, sheet=sheet_of(mid), many=1)
        self.gives(((o, e),), place_space, sheet=sheet_of(mid), many=40)
        self.gives((), place_space, sheet=sheet_of(euler), many=2)
        self.gives(((e,),), space_to, sheet=sheet_of(euler), many=40)

    def test_many_places(self):
        for seed in range(6):
            sheet = some_sheet(seed, 1 + seed % 4, 10 + seed, 1, explicit=seed % 2 == 0)
            stages = len(sheet[0][0])
            self.assertTrue(is_space(place_space(sheet, 40), stages))
            space = space_to(sheet, 40)
            self.assertTrue(is_space(space, stages))
            self.assertEqual(len(space), len(lots(sheet)))
        sheet = sheet_of(scaled(kutta, (BIG, BIG - 1)))
        self.same(place_space(sheet, 40), place_space(sheet_of(kutta), 40))


class Powers(Case):

    def test_the_examples(self):
        self.gives(3, parting_power, table=mid, other=ends)
        self.gives((0, ((0, ()), (0, ()))), least_tree, table=mid, other=ends)
        self.gives(None, parting_power, table=mid, other=mid)
        self.gives(5, parting_power, table=late, other=wide)
        self.gives((0, ((0, ((0, ()),)), (0, ((0, ()),)))), least_tree, table=late, other=wide)
        self.gives([((1, 1), (1, 2), (1, 8)), ((1, 1), (1, 2), (1, 4))], run_of, sheet=whole, change=square,
                   start=(o, o, o), h=e)

    def test_beside_the_weights_of_all_trees(self):
        seen = set()
        for table, other in pairs_of_tables(48):
            parts = len(table[0])
            power, tree = parting_power(table, other), least_tree(table, other)
            seen.add(power)
            self.gives(power, parting_power, table=table, other=other)
            self.gives(tree, least_tree, table=table, other=other)
            for many in range(1, places_of(parts) + 1):
                unlike = [own for own in trees_of(parts, many) if weight(table, own) != weight(other, own)]
                if power is None or many < power:
                    self.assertEqual(unlike, [])
                if many == power:
                    self.assertIn(tree, unlike)
            if tree is not None:
                self.assertTrue(is_tree(tree))
                self.assertEqual(places_of_tree(tree), power)
                self.assertNotEqual(weight(table, tree), weight(other, tree))
            self.assertEqual(power is None, tree is None)
        self.assertTrue({None, 1, 2, 3} <= seen)

    def test_at_lesser_powers_no_change_parts_them(self):
        for table, other in pairs_of_tables(12):
            power = parting_power(table, other)
            change, start = some_change(3, len(table[0]), 2), some_state(3, 2)
            found = unlike_at(series_run(sheet_of(table), change, start, 5)[0], series_run(sheet_of(other), change, start, 5)[0])
            self.assertTrue(found is None or power is not None and power <= found)

    def test_late_power(self):
        # Each further stage hangs on the one before at the middle of what was: powers beyond how many lots there are.
        self.assertEqual(len(lots(beside(sheet_of(late), sheet_of(wide)))), 4)
        change = tree_change(least_tree(late, wide), 1)
        zeros = (o,) * len(change[0])
        series = [series_run(sheet_of(own), change, zeros, 6)[0] for own in (late, wide)]
        self.assertEqual(unlike_at(series[0], series[1]), 5)

    def test_edges(self):
        self.gives(1, parting_power, table=euler, other=no_table)
        self.gives((0, ()), least_tree, table=no_table, other=euler)
        self.gives(None, least_tree, table=no_table, other=no_table)
        self.gives(None, parting_power, table=implicit, other=hidden(implicit, 1))
        self.gives(1, parting_power, table=mid, other=(mid[0], ((o, (BIG - 1, BIG)),)))
        self.gives(2, parting_power, table=repeated(euler, 2), other=scaled(euler, (2, 1)))


class Orders(Case):

    def test_the_examples(self):
        self.gives(2, order_to, table=late, most=6)
        self.gives(None, first_miss, table=mid, most=2)

    def test_beside_all_trees(self):
        tables = [kutta, mid, ends, late, wide, implicit, euler, no_table, mixed((mid, ends), (half, half)),
                  ((((fourth,),),), ((e,),)), scaled(kutta, half), two, repeated(scaled(mid, half), 2), hidden(kutta, 3)]
        tables.extend(some_table(seed, 1 + seed % 2, seed % 4) for seed in range(12))
        for table in tables:
            parts = len(table[0])
            for most in range(1, places_of(parts) + 1):
                missed = misses(table, most)
                order = places_of_tree(missed[0]) - 1 if missed else most
                self.gives(order, order_to, table=table, most=most)
                found = first_miss(table, most)
                self.gives(found, first_miss, table=table, most=most)
                self.assertEqual(found is None, not missed)
                if missed:
                    self.assertIn(found, missed)
                    self.assertEqual(places_of_tree(found), order + 1)

    def test_edges(self):
        self.gives(0, order_to, table=no_table, most=40)
        self.gives((0, ()), first_miss, table=no_table, most=40)
        self.gives(4, order_to, table=kutta, most=40)
        self.gives(3, order_to, table=kutta, most=3)
        self.gives(0, order_to, table=scaled(kutta, half), most=5)
        self.gives(0, order_to, table=(((),) * 2, ((),) * 2), most=1)
        self.gives(2, order_to, table=implicit, most=40)
        self.assertEqual(places_of_tree(first_miss(implicit, 40)), 3)
        self.gives(0, order_to, table=((((o,),),) * 2, ((e,), (half,))), most=5)

    def test_two_parts(self):
        # Each part by itself is of order 2, together they are not: the parts do not see one another.
        apart = ((((half, o), (o, o)), ((o, o), (o, half))), ((e, o), (o, e)))
        self.gives(1, order_to, table=apart, most=4)
        self.gives(first_miss(apart, 4), first_miss, table=apart, most=4)
        self.assertIn(first_miss(apart, 2), [(0, ((1, ()),)), (1, ((0, ()),))])
        seen = ((((half, o), (e, o)), ((o, o), (half, half))), ((half, half), (e, o)))
        self.gives(order_to(seen, 6), lambda table: places_of_tree(misses(table, 3)[0]) - 1, table=seen)

    def test_a_high_order(self):
        # Through the even places of a line the polynomials of degree 5 are told exactly: of order 6 at the least.
        table = collocation(6)
        self.gives(6, order_to, table=table, most=12)
        self.assertEqual(places_of_tree(first_miss(table, 12)), 7)
        self.assertIn(first_miss(table, 12), misses(table, 7))


def collocation(many):
    """The TABLE whose points lie on the polynomial that moves as asked at these places of the step."""
    places = [pair(Fraction(at, many - 1)) for at in range(many)]
    lines = []
    for at in range(many):
        poly = poly_through(places, [e if k == at else o for k in range(many)])
        lines.append((o,) + tuple(pair(Fraction(*x) / (k + 1)) for k, x in enumerate(poly)))
    matrix = tuple(tuple(poly_value(line, place) for line in lines) for place in places)
    return ((matrix,), (tuple(poly_value(line, e) for line in lines),))


class Ladders(Case):

    def test_the_examples(self):
        self.gives(True, is_parting_ladder, table=late, other=wide, thing=square)
        self.gives(True, is_parting_ladder, table=mid, other=ends, thing=parting_ladder(mid, ends))

    def test_parting_ladder(self):
        for table, other in pairs_of_tables(48):
            ladder = parting_ladder(table, other)
            self.gives(ladder, parting_ladder, table=table, other=other)
            self.assertEqual(ladder is None, parting_power(table, other) is None)
            if ladder is not None:
                self.assertTrue(is_change(ladder) and is_ladder(ladder))
                self.assertEqual(len(ladder), len(table[0]))
                zeros = (o,) * len(ladder[0])
                self.assertLessEqual(len(zeros), len(lots(beside(sheet_of(table), sheet_of(other)))))
                self.assertLessEqual(degree_of(ladder), 24)
                found = [run_of(sheet_of(own), ladder, zeros, e) for own in (table, other)]
                self.assertNotEqual(found[0], found[1])
                self.is_one(is_parting_ladder, [ladder], table=table, other=other)

    def test_is_parting_ladder(self):
        leaf = (((((0,), e),),),)
        self.only_unbent(is_parting_ladder, square, table=late, other=wide)
        self.is_none(is_parting_ladder, [None, (), ((),), square * 2, (square[0][:2],), leaf, ((((),)),), [square]],
                     table=late, other=wide)
        # No ladder, though the runs are of explicit TABLES and told unlike.
        loop = (((((0,), e), ((2,), e)),),)
        self.assertTrue(is_change(loop))
        self.assertNotEqual(run_of(sheet_of(mid), loop, (o,), e), run_of(sheet_of(ends), loop, (o,), e))
        self.is_none(is_parting_ladder, [loop], table=mid, other=ends)
        self.is_none(is_parting_ladder, [square, None, leaf], table=late, other=late)
        self.is_none(is_parting_ladder, [square * 2], table=mid, other=ends)
        self.is_one(is_parting_ladder, [leaf, leaf[:1]], table=euler, other=no_table)

    def test_powers_above_24(self):
        def bush(power):
            return (((((0, 0), e),), (((power, 0), e),)),)
        for power, good in ((2, True), (24, True), (25, False), (10 ** 9, False), (1, False), (0, False)):
            self.gives(good, is_parting_ladder, table=mid, other=ends, thing=bush(power))

    def test_wide_ladders(self):
        cells = tuple((((0,) * 30, e),) for _ in range(29)) + ((((2,) + (0,) * 29, e),),)
        self.is_one(is_parting_ladder, [(cells,)], table=mid, other=ends)

    def test_ten_lots(self):
        for seed in range(6):
            source = random.Random(seed)
            table = some_table(seed, 1 + seed % 2, 10, explicit=seed % 2 == 0)
            # Weights that see what comes late alone: 0 for each TREE with few places.
            other = (table[0], tuple(tuple(source.choice((o, e)) for _ in range(10)) for _ in table[0]))
            ladder = parting_ladder(table, other)
            if ladder is not None:
                self.assertLessEqual(len(ladder[0]), 10)
                self.is_one(is_parting_ladder, [ladder], table=table, other=other)

    def test_unlike_at_the_greatest_power_alone(self):
        # Stages at 0, 1, .., 7 of one line, weights that see differences of the 7th power alone.
        for many in (3, 6, 8):
            table, other = sharp_pair(many)
            self.assertEqual(parting_power(table, other), many)
            self.same(least_tree(table, other), made_tree(0, ((0, ()),) * (many - 1)))
            self.is_one(is_parting_ladder, [parting_ladder(table, other)], table=table, other=other)


if __name__ == "__main__":
    unittest.main()
