import random
import unittest
from fractions import Fraction

from everychange.alike import is_alike
from everychange.errors import CanNot, Unfit
from everychange.least import split_stage
from everychange.tables import behind, renamed, repeated, scaled, sheet_of, told
from everychange.trees import places_of_tree
from everychange.turned import (is_symmetric, is_third, made_symmetric, seen_order, seen_to, third_of, turned_table)
from everychange.weights import (back_weights, behind_weights, flow_weights, is_weights, misses, root_weights,
                                 scaled_weights, weights_of)
from tests.helpers import HALF, ONE, ZERO, Case, pair, ratio
from tests.test_tables import euler, implicit, mid, none as empty, some_table, two

none, half, one, part = ZERO, HALF, ONE, (1, 3)
solved, trap = ((((half,),),), ((one,),)), ((((none, none), (half, half)),), ((half, half),))
three = ((((none, none, none), (half, none, none), (none, one, none)),), ((part, part, part),))


def some_weights(seed, parts, places, leaves=None):
    """WEIGHTS with any FRACTIONS; leaves, told, for the TREES of one place."""
    source, found = random.Random(seed), []
    for tree, _ in flow_weights(parts, places):
        x = pair(Fraction(source.randint(-3, 3), source.randint(1, 3)))
        if places_of_tree(tree) == 1 and leaves is not None:
            x = leaves[tree[0]]
        found.append((tree, x))
    return tuple(found)


def cut(weights, places):
    return tuple((tree, x) for tree, x in weights if places_of_tree(tree) <= places)


def through(third, other):
    """What, begun behind third and followed by third back, goes as other does."""
    return behind_weights(behind_weights(third, other), back_weights(third))


class Turned(Case):

    def test_the_examples(self):
        self.gives(True, is_symmetric, table=trap)
        self.gives(False, is_symmetric, table=mid)
        self.gives(((((one,),),), ((one,),)), turned_table, table=euler)
        self.gives(trap, made_symmetric, table=euler)

    def test_place_by_place(self):
        for seed in range(20):
            table = some_table(seed, 1 + seed % 3, seed % 4)
            matrices, weights = table
            expected = (tuple(tuple(tuple(pair(ratio(w) - ratio(x)) for x, w in zip(row, line)) for row in matrix)
                              for matrix, line in zip(matrices, weights)), weights)
            self.gives(expected, turned_table, table=table)
            self.same(turned_table(turned_table(table)), table)
            # Turned back behind the TABLE with the step turned: where that began.
            there = behind(scaled(table, (-1, 1)), turned_table(table))
            self.assertTrue(is_alike(there, repeated(table, 0)))

    def test_is_symmetric(self):
        for table, can in ((trap, True), (solved, True), (implicit, True), (mid, False), (euler, False), (empty, True), (two, False),
                           (repeated(implicit, 3), True), (behind(euler, turned_table(euler)), True), (behind(implicit, euler), False),
                           (scaled(trap, (-7, 3)), True), ((trap[0] * 2, trap[1] * 2), True)):
            self.gives(can, is_symmetric, table=table)
            # The same with its stages in another order, and split.
            sheet = sheet_of(table)
            stages = len(table[0][0])
            self.gives(can, is_symmetric, table=told(renamed(sheet, tuple(reversed(range(stages)))), 0))
            for stage in range(stages):
                self.gives(can, is_symmetric, table=told(split_stage(sheet, stage, (-2, 3)), 0))

    def test_made_symmetric(self):
        for seed in range(16):
            table = some_table(seed, 1 + seed % 2, seed % 4)
            found = made_symmetric(table)
            self.gives(behind(scaled(table, half), turned_table(scaled(table, half))), made_symmetric, table=table)
            self.assertTrue(is_symmetric(found))
            self.assertEqual(is_symmetric(table), is_alike(table, turned_table(table)))

    def test_symmetric_tables_miss_an_odd_number_of_places_first(self):
        for seed in range(10):
            missed = misses(made_symmetric(some_table(seed, 1, 2)), 4)
            if missed:
                self.assertEqual(places_of_tree(missed[0]) % 2, 1)


class Seen(Case):

    def test_the_examples(self):
        self.gives((((0, ()), (0, 1)), ((0, ((0, ()),)), (-1, 8))), third_of, one=weights_of(trap, 3), other=weights_of(solved, 3))
        self.gives(3, seen_order, table=three, most=3)
        self.same(len(misses(three, 3)), 1)
        self.gives(2, seen_order, table=trap, most=3)
        self.gives(1, seen_order, table=euler, most=3)

    def pairs(self):
        for seed in range(40):
            parts = 1 + seed % 3
            places = (4, 3, 2)[parts - 1]
            source = random.Random(seed)
            leaves = [pair(Fraction(source.randint(-2, 2), source.randint(1, 2))) for _ in range(parts)]
            if not any(x[0] for x in leaves):
                leaves[0] = one
            other = some_weights(seed, parts, places, leaves)
            third = some_weights(seed + 100, parts, places)
            yield seed, parts, places, other, third

    def test_seen_through_one_that_is_known(self):
        for seed, parts, places, other, third in self.pairs():
            own = through(third, other)
            self.same(behind_weights(own, third), behind_weights(third, other))
            self.gives(places, seen_to, one=own, other=other)
            found = third_of(own, other)
            self.gives(found, third_of, one=own, other=other)
            self.assertTrue(is_weights(parts, places - 1, found))
            self.is_one(is_third, [found, cut(third, places - 1)], one=own, other=other)
            # The one with (0, 1) for the least part that moves at all.
            least = next(tree for tree, x in own if x[0])
            self.same(dict((str(tree), x) for tree, x in found)[str(least)], none)
            # Each other third is the one itself done some times, then this one.
            for n in (2, 3):
                root = cut(root_weights(own, n), places - 1)
                self.is_one(is_third, [behind_weights(root, found)], one=own, other=other)

    def test_not_all_the_way(self):
        for seed, parts, places, other, third in self.pairs():
            own = through(third, other)
            for size in range(1, places + 1):
                # Something else for a TREE of so many places.
                at = [k for k, (tree, x) in enumerate(own) if places_of_tree(tree) == size][-1]
                spoilt = own[:at] + ((own[at][0], pair(ratio(own[at][1]) + 1)),) + own[at + 1:]
                reach = seen_to(spoilt, other)
                self.gives(reach, seen_to, one=spoilt, other=other)
                self.assertGreaterEqual(reach, size - 1)
                if size == 1:
                    self.same(reach, 0)
                    self.gives(None, third_of, one=spoilt, other=other)
                found = third_of(spoilt, other)
                self.assertEqual(found is None, reach < places)
                if reach >= 2:
                    # To as many places there is one, by own words.
                    less = third_of(cut(spoilt, reach), cut(other, reach))
                    self.assertIsNotNone(less)
                    self.assertTrue(is_third(cut(spoilt, reach), cut(other, reach), less))
                if 0 < reach < places:
                    self.assertIsNone(third_of(cut(spoilt, reach + 1), cut(other, reach + 1)))

    def test_straight_equations(self):
        # Two parts, two places: t(a) one(b) - other(a) t(b) = other(ab) - one(ab), all told.
        stalks = [(0, ((0, ()),)), (0, ((1, ()),)), (1, ((0, ()),)), (1, ((1, ()),))]

        def weights(*more):
            return (((0, ()), (2, 1)), ((1, ()), (3, 1))) + tuple(zip(stalks, more))
        x, y = (5, 1), (7, 1)
        self.gives(2, seen_to, one=weights(x, x, x, x), other=weights(x, (3, 1), y, x))
        self.gives((((0, ()), none), ((1, ()), one)), third_of, one=weights(x, x, x, x), other=weights(x, (3, 1), y, x))
        for other in (weights(x, x, y, x), weights(y, x, x, x), weights(x, (3, 1), (6, 1), x)):
            self.gives(1, seen_to, one=weights(x, x, x, x), other=other)
            self.gives(None, third_of, one=weights(x, x, x, x), other=other)
        # A part that moves nothing is not the one that is told.
        still = (((0, ()), none), ((1, ()), one)) + tuple((tree, none) for tree in stalks)
        moved = still[:3] + ((stalks[1], (2, 1)), (stalks[2], (-2, 1)), still[5])
        self.gives((((0, ()), (-2, 1)), ((1, ()), none)), third_of, one=moved, other=still)

    def test_errors(self):
        small, wide, long = flow_weights(1, 2), flow_weights(2, 2), flow_weights(1, 3)
        nothing = tuple((tree, none) for tree, x in small)
        for first, second in ((small, wide), (wide, small), (small, long), (long, small), (nothing, wide)):
            self.raises(Unfit, seen_to, one=first, other=second)
            self.raises(Unfit, third_of, one=first, other=second)
            self.raises(Unfit, is_third, one=first, other=second, thing=None)
        lifted = (nothing[0], (nothing[1][0], one))
        for first, second in ((nothing, nothing), (nothing, lifted), (lifted, lifted)):
            self.raises(CanNot, seen_to, one=first, other=second)
            self.raises(CanNot, third_of, one=first, other=second)
        # 0 in one of them alone.
        self.gives(0, seen_to, one=nothing, other=small)
        self.gives(0, seen_to, one=small, other=nothing)
        self.gives(None, third_of, one=small, other=nothing)

    def test_is_third(self):
        own, other = weights_of(trap, 3), weights_of(solved, 3)
        found = third_of(own, other)
        self.only_unbent(is_third, found, one=own, other=other)
        self.is_none(is_third, [cut(found, 1), found + found, flow_weights(1, 3), (), flow_weights(2, 2), found[::-1],
                                (found[0], (found[1][0], (1, 8)))], one=own, other=other)
        # Begun a little further on.
        self.is_one(is_third, [cut(behind_weights(scaled_weights(flow_weights(1, 2), none), found), 2)], one=own, other=other)
        # Where both have 0 for all TREES of one place: the TREES of two places must be equal, the third may be any.
        low = some_weights(1, 2, 2, [none, none])
        self.is_one(is_third, [some_weights(at, 2, 1) for at in range(5)], one=low, other=low)
        lifted = low[:3] + ((low[3][0], pair(ratio(low[3][1]) + 1)),) + low[4:]
        self.is_none(is_third, [some_weights(at, 2, 1) for at in range(5)], one=low, other=lifted)

    def test_is_third_by_behind_weights(self):
        seen = set()
        for seed in range(60):
            own, other = some_weights(seed, 1, 3, [one]), some_weights(seed + 1 + seed % 2, 1, 3, [one])
            thing = some_weights(seed % 5, 1, 2)
            if seed % 3 == 0:
                own = through(thing + tuple((tree, one) for tree, x in other[2:]), other)
            longer = thing + tuple((tree, one) for tree, x in other[2:])
            expected = behind_weights(own, longer) == behind_weights(longer, other)
            self.gives(expected, is_third, one=own, other=other, thing=thing)
            seen.add(expected)
        self.assertEqual(seen, {True, False})

    def test_seen_order(self):
        for table in (euler, mid, implicit, trap, three, empty, two, (mid[0] * 2, mid[1] * 2), made_symmetric(mid)):
            parts = len(table[0])
            for most in (2, 3, 4) if parts == 1 else (2, 3):
                self.gives(seen_to(weights_of(table, most), flow_weights(parts, most)), seen_order, table=table, most=most)
        self.gives(0, seen_order, table=empty, most=3)
        self.gives(0, seen_order, table=scaled(mid, half), most=2)
        # It is never less than the order; with one place behind another's it is more.
        behind_there = behind(behind(scaled(euler, part), mid), scaled(turned_table(euler), (-1, 3)))
        self.assertTrue(is_alike(behind(scaled(euler, part), scaled(turned_table(euler), (-1, 3))), empty))
        self.gives(2, seen_order, table=behind_there, most=4)

    def test_greatest(self):
        # 200 TREES of one part, 124 of four.
        table = behind(behind(scaled(euler, part), three), scaled(turned_table(euler), (-1, 3)))
        self.same(seen_order(table, 8), seen_order(three, 8))
        self.same(seen_order((euler[0] * 4, euler[1] * 4), 3), 1)
        flow = flow_weights(1, 7)
        own = through(weights_of(mid, 7), flow)
        found = third_of(own, flow)
        self.assertTrue(is_third(own, flow, found))
        self.assertTrue(is_third(own, flow, weights_of(mid, 6)))


if __name__ == "__main__":
    unittest.main()
