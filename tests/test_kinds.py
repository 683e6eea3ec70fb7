import itertools
import random
import re
import unittest
from fractions import Fraction
from math import comb, factorial

from everychange.alike import alike_to, is_alike
from everychange.changes import is_change, is_ladder
from everychange.engine import flow_series, series_run
from everychange.errors import CanNot, Unfit
from everychange.kinds import (alike_on, all_kind, degree_kind, driven_kind, fits, is_kind, is_parting_on, kind_rows,
                               kind_trees, one_cell_order, order_on, parting_on, power_on, second_kind, time_kind,
                               turning_kind)
from everychange.leastpower import order_to, parting_power
from everychange.ratios import combination, in_space, is_space, space_of
from everychange.tables import beside, sheet_of
from everychange.trees import number_of, trees_of, trees_within
from everychange.weights import tree_row, weight
from tests.helpers import HALF, ONE, ZERO, Case, bent, pair, ratio
from tests.test_alike import hidden
from tests.test_changes import some_poly
from tests.test_tables import euler, implicit, mid, none, some_table, two

zero, half, unit = ZERO, HALF, ONE
heun = ((((zero, zero), (unit, zero)),), ((half, half),))
late = (((((0, 0), unit),), (((1, 1), unit),)),)
# Of two parts: cells that know those of their own sort by one factor, those of the other one by as many as they like.
pairs = ((0, ((2, (1, None)),)), (1, ((None, (None, 1)), (3, (3, 3)))))
lone = ((0, ()), (0, ((1, (0, 2)), (2, (None, 0)))))
MADE = (time_kind(), driven_kind(), turning_kind(), second_kind(), all_kind(1), all_kind(2), degree_kind(2, 2), degree_kind(1, 0),
        degree_kind(1, 1), pairs, lone)


def some_kind(seed, parts):
    source = random.Random(seed)
    many = source.randint(1, 3)

    def bound():
        return source.choice((None, 0, 1, 2, 3))
    return tuple((source.randrange(parts), tuple((bound(), tuple(bound() for _ in range(many))) for _ in range(source.randint(0, 2))))
                 for _ in range(many))


def kinds():
    yield from MADE
    for seed in range(30):
        yield some_kind(seed, 1 + seed % 2)


def parts_of(kind):
    return 1 + max(part for part, ways in kind)


def own_sorts(kind, tree):
    """The sorts of which the TREE is, each choice of sorts for its branches tried."""
    found = []
    choices = [own_sorts(kind, branch) for branch in tree[1]]
    for sort, (part, ways) in enumerate(kind):
        if part == tree[0] and any(
                (most is None or len(choice) <= most) and
                all(cap is None or choice.count(own) <= cap for own, cap in enumerate(caps))
                for most, caps in ways for choice in itertools.product(*choices)):
            found.append(sort)
    return found


def own_trees(kind, sort, places):
    return [tree for tree in trees_of(parts_of(kind), places) if sort in own_sorts(kind, tree)]


def own_rows(kind, sheet):
    """The spaces by the words of the document: again and again all products that a WAY lets, till nothing is new.

    More factors of one sort than there are stages bring no more than fewer do.
    """
    size = len(sheet[0][0])
    spaces = [() for _ in kind]
    while True:
        further = []
        for sort, (part, ways) in enumerate(kind):
            rows = list(spaces[sort])
            for most, caps in ways:
                lots = [[(0, (unit,) * size)]]
                for own, cap in enumerate(caps):
                    brought = [tuple(pair(sum(ratio(a) * ratio(x) for a, x in zip(line, row))) for line in sheet[0][kind[own][0]])
                               for row in spaces[own]]
                    found = []
                    for count in range(0, (size if cap is None else min(cap, size)) + 1):
                        for factors in itertools.combinations_with_replacement(brought, count):
                            for done, row in lots[-1]:
                                if most is None or done + count <= most:
                                    for factor in factors:
                                        row = tuple(pair(ratio(x) * ratio(y)) for x, y in zip(row, factor))
                                    found.append((done + count, row))
                    lots.append(sorted(set(found)))
                rows += [row for done, row in lots[-1]]
            further.append(space_of(rows, size))
        if further == spaces:
            return spaces
        spaces = further


class Kinds(Case):

    def test_is_kind(self):
        self.is_one(is_kind, list(kinds()) + [((0, ()),), ((99, ((10 ** 9, (None,)),)),), ((0, ()),) * 9])
        self.is_none(is_kind, [(), None, ((0,),), ((0, (), ()),), ((-1, ()),), ((True, ()),), ((None, ()),), ((0, ((1,),)),), ((0, ((1, (1,), 1),)),),
                               ((0, ((1, ()),)),), ((0, ((1, (1, 1)),)),), ((0, ((-1, (1,)),)),), ((0, ((1, (-1,)),)),), ((0, ((1, 1),)),),
                               ((0, (1, (1,))),), (0, ((1, (1,)),)), ((0, ((1, (1,)),)), None), ((0, ((1, (True,)),)),), "kind", 7])
        for kind in (time_kind(), pairs, ((0, ()),)):
            self.is_one(is_kind, [kind])
            for thing in self.bent_bounds(kind):
                self.same(is_kind(thing), False, repr(thing))

    def bent_bounds(self, kind):
        """The KIND bent at one place; None is let for a bound."""
        for thing in bent(kind):
            if re.sub(r"None|\b\d+\b", "0", repr(thing)) != re.sub(r"None|\b\d+\b", "0", repr(kind)):
                yield thing

    def test_made_kinds(self):
        self.gives(((0, ((None, (None, None, None)),)), (1, ((None, (None, None, None)),)), (2, ((None, (None, None, None)),))), all_kind, parts=3)
        self.gives(((0, ((None, (None,)),)),), all_kind, parts=1)
        self.gives(((0, ((5, (None, None)),)), (1, ((5, (None, None)),))), degree_kind, parts=2, degree=5)
        self.gives(((0, ((0, (0, 0)),)), (0, ((None, (None, 0)),))), time_kind)
        self.gives(((0, ((0, (0, 0)),)), (0, ((None, (None, 0)), (1, (0, 1))))), driven_kind)
        self.gives(((0, ((0, (0, 0)),)), (0, ((None, (None, 1)),))), turning_kind)
        self.gives(((0, ((1, (0, 1)),)), (1, ((None, (None, 0)),))), second_kind)
        for kind in MADE:
            self.is_one(is_kind, [kind])


class Fits(Case):

    def test_the_examples(self):
        self.gives(False, fits, kind=driven_kind(), change=late, sorts=(0, 1))
        self.gives(True, fits, kind=turning_kind(), change=late, sorts=(0, 1))
        self.no_place(1, fits, kind=second_kind(), change=late, sorts=(0, 1))

    def test_own_counting(self):
        seen = {True: 0, False: 0}
        for seed in range(400):
            source = random.Random(seed)
            kind = list(kinds())[seed % 41]
            parts = parts_of(kind) + seed % 2
            cells = source.randint(1, 3)
            sorts = tuple(source.randrange(len(kind)) for _ in range(cells))
            change = tuple(tuple(some_poly(seed * 9 + cell, cells, 2, 1 + seed % 3)
                                 if kind[sorts[cell]][0] == part and source.random() < 0.7 or source.random() < 0.1 else ()
                                 for cell in range(cells)) for part in range(parts))
            expected = all(
                part == kind[sorts[cell]][0] and any(
                    (most is None or sum(powers) <= most) and
                    all(cap is None or sum(power for power, own in zip(powers, sorts) if own == at) <= cap
                        for at, cap in enumerate(caps)) for most, caps in kind[sorts[cell]][1])
                for part in range(parts) for cell in range(cells) for powers, x in change[part][cell])
            seen[expected] += 1
            self.gives(expected, fits, kind=kind, change=change, sorts=sorts)
        self.assertGreater(min(seen.values()), 60)

    def test_caps_and_most(self):
        def one(power, other):
            return ((), (((power, other, 0), unit),), ()), ((), (), ())
        kind = ((0, ()), (0, ((3, (2, 1)), (None, (0, None)))))
        for power, other, can in ((0, 0, True), (2, 1, True), (3, 0, False), (2, 0, True), (1, 2, False), (0, 9, True), (2, 2, False)):
            self.gives(can, fits, kind=kind, change=one(power, other), sorts=(0, 1, 1))
        # Cells of one sort count together.
        powers = (((1, 1, 1), unit),)
        self.gives(False, fits, kind=kind, change=(((), powers, ()),), sorts=(0, 1, 1))
        self.gives(True, fits, kind=kind, change=(((), powers, ()),), sorts=(0, 1, 0))
        # By no WAY at all a cell is not moved.
        self.gives(True, fits, kind=((0, ()),), change=(((),),), sorts=(0,))
        self.gives(False, fits, kind=((0, ()),), change=(((((0,), unit),),),), sorts=(0,))
        # By another part than that of the sort.
        self.gives(False, fits, kind=all_kind(1), change=(((),), ((((0,), unit),),)), sorts=(0,))

    def test_errors(self):
        change = (((), ()), ((), ()))
        self.no_place(5, fits, kind=((1, ()), (5, ()), (7, ())), change=change, sorts=(9,))
        self.no_place(2, fits, kind=all_kind(2), change=change, sorts=(0, 2, 3))
        self.no_place(-1, fits, kind=all_kind(2), change=change, sorts=(-1,))
        for sorts in ((), (0,), (0, 1, 1)):
            self.raises(Unfit, fits, kind=all_kind(2), change=change, sorts=sorts)


class Trees(Case):

    def test_the_example(self):
        self.gives([(1, ((0, ()), (0, ()))), (1, ((0, ((1, ()),)),))], kind_trees, kind=second_kind(), sort=1, places=3)

    def test_all_trees_one_by_one(self):
        for kind in kinds():
            for sort in range(len(kind)):
                for places in range(1, 5):
                    self.gives(own_trees(kind, sort, places), kind_trees, kind=kind, sort=sort, places=places)
        for kind in (all_kind(1), degree_kind(1, 2), degree_kind(1, 1), degree_kind(1, 0), ((0, ((3, (2,)),)),), ((0, ()),)):
            for places in (5, 6):
                self.gives(own_trees(kind, 0, places), kind_trees, kind=kind, sort=0, places=places)
        self.same(len(kind_trees(all_kind(1), 0, 6)), 20)

    def test_parts_with_gaps(self):
        kind = ((7, ((None, (1, None)),)), (3, ((1, (None, None)),)))
        plain = ((1, ((None, (1, None)),)), (0, ((1, (None, None)),)))

        def put(tree):
            return ((3, 7)[tree[0]], tuple(put(branch) for branch in tree[1]))
        for sort in (0, 1):
            for places in (1, 2, 3, 4):
                self.gives([put(tree) for tree in own_trees(plain, sort, places)], kind_trees, kind=kind, sort=sort, places=places)
        self.gives([(10 ** 9, ())], kind_trees, kind=((10 ** 9, ((0, (0,)),)),), sort=0, places=1)

    def test_no_place(self):
        for sort in (2, -1):
            self.no_place(sort, kind_trees, kind=time_kind(), sort=sort, places=2)


class Rows(Case):

    def test_beside_own_closure(self):
        for at, kind in enumerate(kinds()):
            for seed in range(2):
                sheet = sheet_of(some_table(seed + at, parts_of(kind), 1 + (seed + at) % 3, explicit=seed == 1))
                found = kind_rows(kind, sheet)
                self.same(found, own_rows(kind, sheet))
                if at % 6 == 0:
                    self.gives(found, kind_rows, kind=kind, sheet=sheet)

    def test_beside_trees_of_few_places(self):
        for at, kind in enumerate(kinds()):
            sheet = beside(sheet_of(some_table(at, parts_of(kind), 3)), sheet_of(some_table(at + 90, parts_of(kind), 2)))
            spaces = kind_rows(kind, sheet)
            self.assertTrue(all(is_space(space, 5) for space in spaces))
            for sort, space in enumerate(spaces):
                for places in range(1, 5):
                    for tree in own_trees(kind, sort, places):
                        self.assertTrue(in_space(space, tree_row(sheet, tree)))

    def test_edges(self):
        self.gives([()], kind_rows, kind=((0, ()),), sheet=sheet_of(mid))
        self.gives([()], kind_rows, kind=all_kind(1), sheet=sheet_of(none))
        self.gives([((unit, unit),)], kind_rows, kind=degree_kind(1, 0), sheet=sheet_of(mid))
        self.gives([((unit, zero), (zero, unit))], kind_rows, kind=all_kind(1), sheet=(mid[0], ()))
        # A branch of a sort without TREES brings nothing.
        self.gives([(), ((unit, unit),)], kind_rows, kind=((0, ()), (0, ((None, (None, 0)),))), sheet=sheet_of(mid))

    def test_no_place(self):
        kind = ((1, ()), (4, ()), (9, ()))
        self.no_place(4, kind_rows, kind=kind, sheet=sheet_of(two))
        self.no_place(1, kind_rows, kind=second_kind(), sheet=(mid[0], ()))
        for function, more in ((alike_on, {"other": two}), (parting_on, {"other": two}), (is_parting_on, {"other": two, "thing": None}),
                               (power_on, {"other": two, "most": 3}), (order_on, {"most": 3})):
            self.no_place(4, function, kind=kind, table=two, **more)


def pairs_of_tables(parts, seeds):
    for seed in seeds:
        table, other = some_table(seed, parts, 1 + seed % 3), some_table(seed + 60, parts, 1 + (seed + 1) % 3)
        if seed % 3 == 0:
            other = hidden(table, seed)
        if seed % 3 == 1:
            other = (table[0], some_table(seed + 60, parts, 1 + seed % 3)[1])
        yield table, other


class Alike(Case):

    def test_the_examples(self):
        self.gives(True, alike_on, kind=degree_kind(1, 1), table=heun, other=mid)
        self.gives(3, power_on, kind=time_kind(), table=heun, other=mid, most=8)
        self.gives(2, order_on, kind=all_kind(1), table=heun, most=8)

    def test_alike_on(self):
        seen = set()
        for at, kind in enumerate(kinds()):
            for table, other in pairs_of_tables(parts_of(kind), range(at, at + 4)):
                spaces = own_rows(kind, beside(sheet_of(table), sheet_of(other)))
                expected = True
                for (part, ways), space in zip(kind, spaces):
                    weights = [ratio(x) for x in table[1][part]] + [-ratio(x) for x in other[1][part]]
                    expected &= not any(sum(a * ratio(x) for a, x in zip(weights, row)) for row in space)
                self.gives(expected, alike_on, kind=kind, table=table, other=other)
                seen.add(expected)
                if expected:
                    self.raises(CanNot, parting_on, kind=kind, table=table, other=other)
                    self.gives(None, power_on, kind=kind, table=table, other=other, most=8)
        self.assertEqual(seen, {True, False})

    def test_kinds_of_all_changes_and_of_a_degree(self):
        for parts in (1, 2):
            for table, other in pairs_of_tables(parts, range(12)):
                self.same(alike_on(all_kind(parts), table, other), is_alike(table, other))
                for degree in range(4):
                    self.same(alike_on(degree_kind(parts, degree), table, other), alike_to(table, other, degree))

    def test_power_on(self):
        for at, kind in enumerate(kinds()):
            for table, other in pairs_of_tables(parts_of(kind), (at, at + 1)):
                powers = [places for places in range(1, 5) for sort in range(len(kind)) for tree in own_trees(kind, sort, places)
                          if weight(table, tree) != weight(other, tree)]
                for most in (1, 2, 3, 4):
                    expected = min((power for power in powers if power <= most), default=None)
                    self.gives(expected, power_on, kind=kind, table=table, other=other, most=most)
        for table, other in pairs_of_tables(1, range(6)):
            power = parting_power(table, other)
            self.same(power_on(all_kind(1), table, other, 8), power)

    def test_order_on(self):
        tables = [heun, mid, euler, implicit, none] + [some_table(seed, 1, 2) for seed in range(4)]
        for kind in kinds():
            for table in tables if parts_of(kind) == 1 else [two, (mid[0] * 2, mid[1] * 2)]:
                misses = [places for places in range(1, 5) for sort in range(len(kind)) for tree in own_trees(kind, sort, places)
                          if ratio(weight(table, tree)) != Fraction(1, number_of(tree))]
                for most in (1, 3, 4):
                    self.gives(min([places - 1 for places in misses if places <= most] + [most]), order_on, kind=kind, table=table, most=most)
        for table in tables:
            self.gives(order_to(table, 8), order_on, kind=all_kind(1), table=table, most=8)
        self.gives(8, order_on, kind=((0, ()),), table=euler, most=8)
        self.gives(8, order_on, kind=degree_kind(1, 0), table=heun, most=8)


class Parting(Case):

    def looks_right(self, kind, table, other, thing):
        change, sorts, power = thing
        self.assertTrue(is_change(change) and is_ladder(change) and len(change) == len(table[0]))
        self.assertTrue(fits(kind, change, sorts))
        start = (zero,) * len(sorts)
        first, second = [series_run(sheet_of(own), change, start, power)[0] for own in (table, other)]
        self.assertTrue(any(x[power] != y[power] for x, y in zip(first, second)))
        return any(x[:power] != y[:power] for x, y in zip(first, second))

    def test_parting_on(self):
        seen = 0
        for at, kind in enumerate(kinds()):
            for table, other in pairs_of_tables(parts_of(kind), range(at, at + 4)):
                if not alike_on(kind, table, other):
                    found = parting_on(kind, table, other)
                    self.gives(found, parting_on, kind=kind, table=table, other=other)
                    # It is the least power at all.
                    self.assertFalse(self.looks_right(kind, table, other, found))
                    if found[2] <= 8:
                        self.same(power_on(kind, table, other, 8), found[2])
                    self.is_one(is_parting_on, [found], kind=kind, table=table, other=other)
                    for thing in (found[:2] + (found[2] - 1,), found[:2] + (0,), found[:2], found + (1,), list(found),
                                  (found[0], list(found[1]), found[2]), (found[0], found[1] + (0,), found[2]),
                                  (found[0] * 2, found[1], found[2]), (found[0], found[1][:-1] + (len(kind),), found[2]),
                                  (found[0], found[1][:-1] + (-1,), found[2]), (found[0], found[1], -1)):
                        self.is_none(is_parting_on, [thing], kind=kind, table=table, other=other)
                    self.is_none(is_parting_on, [found], kind=kind, table=table, other=table)
                    seen += 1
        self.assertGreater(seen, 40)

    def test_bent(self):
        found = parting_on(time_kind(), heun, mid)
        self.only_unbent(is_parting_on, found, kind=time_kind(), table=heun, other=mid)
        # A change that is of another kind alone.
        squares = (((((0, 0), unit),), (((2, 0), unit),)),)
        self.is_one(is_parting_on, [(squares, (0, 1), 3)], kind=time_kind(), table=heun, other=mid)
        self.is_none(is_parting_on, [(squares, (1, 1), 3), (squares, (0, 0), 3), (squares, (0, 1), 4), (squares, (0, 1), 2)],
                     kind=time_kind(), table=heun, other=mid)
        self.is_none(is_parting_on, [(squares, (0, 1), 3)], kind=degree_kind(1, 1), table=heun, other=mid)

    def test_no_ladder_is_needed(self):
        # x' = 1 + x x, from 0.
        change = (((((0,), unit), ((2,), unit)),),)
        self.is_one(is_parting_on, [(change, (0,), 3)], kind=all_kind(1), table=heun, other=mid)
        self.is_none(is_parting_on, [(change, (0,), 2)], kind=all_kind(1), table=heun, other=mid)

    def test_powers(self):
        def clock(power):
            return (((((0, 0), unit),), (((power, 0), unit),)),)
        self.is_one(is_parting_on, [(clock(24), (0, 1), 25)], kind=time_kind(), table=heun, other=mid)
        self.is_none(is_parting_on, [(clock(25), (0, 1), 26)], kind=time_kind(), table=heun, other=mid)
        # t, then t ** 20, then that times itself twice, times t: powers 21, and 64 or 60 behind.
        def tower(power):
            return (((((0, 0, 0), unit),), (((19, 0, 0), unit),), (((power, 2, 0), unit),)),)
        for power, can in ((18, True), (19, True), (20, False), (21, False)):
            self.gives(can, is_parting_on, kind=all_kind(1), table=implicit, other=(implicit[0], ((half,),)),
                       thing=(tower(power), (0, 0, 0), power + 41))

    def late(self, factors, sorts):
        """(kind, table, other): parted by TREES alone each branch of which has as many branches as may be."""
        size = factors + 1
        # Part 0 makes 0, 1, 2, .. of ones; part 1 makes this of what has the greatest power of it, 0 of lesser powers.
        last = [Fraction((-1) ** (factors - at) * comb(factors, at), factorial(factors)) for at in range(size)]
        matrices = (tuple(tuple(pair(i * (k == 0)) for k in range(size)) for i in range(size)),
                    tuple(tuple(pair(i * x) for x in last) for i in range(size)), ((zero,) * size,) * size)
        none = (zero,) * size
        table, other = (matrices, (none, none, tuple(pair(x) for x in last))), (matrices, (none,) * 3)
        kind = [(0, ((0, (0,) * sorts),))]
        for sort in range(1, sorts):
            caps = tuple(factors if own == sort - 1 else 0 for own in range(sorts))
            kind.append((2 if sort == sorts - 1 else 1, ((None, caps),)))
        return tuple(kind), table, other

    def test_late_powers(self):
        for factors, sorts, power in ((2, 3, 7), (2, 4, 15), (2, 5, 31), (3, 4, 40), (2, 6, 63), (4, 4, 85)):
            kind, table, other = self.late(factors, sorts)
            found = parting_on(kind, table, other)
            self.same(found[2], power)
            self.gives(False, alike_on, kind=kind, table=table, other=other)
            self.assertFalse(self.looks_right(kind, table, other, found))
            self.gives(power if power <= 8 else None, power_on, kind=kind, table=table, other=other, most=8)
            # Powers above 60 are not let.
            self.gives(power <= 60, is_parting_on, kind=kind, table=table, other=other, thing=found)


class OneCell(Case):

    def test_beside_changes_of_one_cell(self):
        tables = [heun, mid, euler, implicit, none] + [some_table(seed, 1, 3) for seed in range(6)]
        for table in tables:
            order = one_cell_order(table, 6)
            self.gives(order, one_cell_order, table=table, most=6)
            for most in range(1, 6):
                self.gives(min(order, most), one_cell_order, table=table, most=most)
            self.looks_right(table, order, 6)
        for table in [two, (mid[0] * 2, mid[1] * 2), (heun[0] + mid[0], heun[1] + heun[1])] + [some_table(seed, 2, 2) for seed in range(4)]:
            order = one_cell_order(table, 4)
            self.gives(order, one_cell_order, table=table, most=4)
            self.looks_right(table, order, 4)

    def looks_right(self, table, order, most):
        unlike = []
        for seed in range(6):
            change = tuple((some_poly(seed * 7 + part, 1, 6, 6),) for part in range(len(table[0])))
            start = (pair(Fraction(seed + 1, 2)),)
            told, flow = series_run(sheet_of(table), change, start, most)[0][0], flow_series(change, start, most)[0]
            unlike += [power for power in range(most + 1) if told[power] != flow[power]]
        self.assertEqual(min(unlike + [most + 1]), order + 1)

    def shape(self, tree):
        """How many branches its places have: in one cell TREES of equal shapes bring the same."""
        return tuple(sorted(len(own[1]) for own in trees_within(tree)))

    def test_more_than_the_order(self):
        # Weights for a matrix such that at 4 places each shape is right, though no TREE of the shape of two is.
        self.assertEqual(sorted(len([1 for other in trees_of(1, 4) if self.shape(other) == self.shape(tree)]) for tree in trees_of(1, 4)),
                         [1, 1, 2, 2])
        matrices, _ = some_table(8, 1, 7, 5, 3, explicit=True)
        rows, wanted = [], []
        for places in (1, 2, 3, 4):
            by_shape = {}
            for tree in trees_of(1, places):
                by_shape.setdefault(self.shape(tree), []).append(tree)
            for trees in by_shape.values():
                # The two TREES of one shape come with 1 and 2 ways to change branches.
                shares = [Fraction(1, 2) if tree == (0, ((0, ((0, ()), (0, ()))),)) else Fraction(1) for tree in trees] \
                    if len(trees) == 2 else [Fraction(1)]
                rows.append([pair(sum(share * ratio(tree_row((matrices, ()), tree)[stage]) for share, tree in zip(shares, trees)))
                             for stage in range(7)])
                wanted.append(pair(sum(share / number_of(tree) for share, tree in zip(shares, trees))))
        table = (matrices, (combination(list(zip(*rows)), wanted),))
        self.same(order_to(table, 6), 3)
        self.gives(4, one_cell_order, table=table, most=6)
        self.looks_right(table, 4, 6)


if __name__ == "__main__":
    unittest.main()
