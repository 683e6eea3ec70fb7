import itertools
import random
import unittest
from fractions import Fraction

from everychange.changes import is_change
from everychange.driven import (below, drive_change, growth, is_array, is_below, is_drive, is_growth, is_squares,
                                never_grows_driven, square_of, squares, told_size)
from everychange.engine import is_solution
from everychange.least import least_table, split_stage
from everychange.tables import repeated, scaled, sheet_of, told
from tests.helpers import HALF, ONE, ZERO, Case, pair, ratio
from tests.test_changes import some_change, some_poly, some_state, value
from tests.test_kept import own_array
from tests.test_tables import euler, implicit, mid, none as empty, some_table, two

none, one, half, less = ZERO, ONE, HALF, (-1, 1)
plain, middle = ((((none,),),), ((one,),)), ((((half,),),), ((one,),))
back, flat = ((((one,),),), ((one,),)), (((),),)
drive, there = ("turn", flat, ((((0,), half),),)), ((none, one, none),)
BIG = 10 ** 30


def whole_array(rows):
    return tuple(tuple(pair(x) for x in row) for row in rows)


def of_squares(seed, many, count, low=1):
    """An ARRAY made of some squares, as many of them taken away as low tells."""
    source = random.Random(seed)
    rows = [[Fraction(0)] * many for _ in range(many)]
    for at in range(count):
        row = [Fraction(source.randint(-2, 2) * source.randint(0, 1), source.randint(1, 2)) for _ in range(many)]
        much = Fraction(source.randint(1, 3), source.randint(1, 3)) * (1 if at >= low else -1)
        for i, j in itertools.product(range(many), repeat=2):
            rows[i][j] += much * row[i] * row[j]
    return whole_array(rows)


def arrays():
    yield ()
    yield ((none,),)
    yield ((half,),)
    yield (((-1, 3),),)
    yield whole_array([[0, 0], [0, 0]])
    yield whole_array([[0, 1], [1, 0]])
    yield whole_array([[0, 1], [1, 5]])
    yield whole_array([[0, 0], [0, 5]])
    yield whole_array([[1, 1], [1, 1]])
    yield whole_array([[1, 2], [2, 1]])
    yield whole_array([[0, 0, 0], [0, 1, 1], [0, 1, 1]])
    yield whole_array([[1, 0, 1], [0, 0, 1], [1, 1, 9]])
    yield whole_array([[1, 1, 0], [1, 1, Fraction(1, 10 ** 30)], [0, Fraction(1, 10 ** 30), 1]])
    yield whole_array([[2, -1, 0], [-1, 2, -1], [0, -1, Fraction(2, 3)]])
    yield whole_array([[2, -1, 0], [-1, 2, -1], [0, -1, Fraction(2, 3) - Fraction(1, 10 ** 30)]])
    for seed in range(60):
        yield of_squares(seed, 1 + seed % 6, 1 + seed % 7, seed % 2)


def added(array, found):
    """What the squares come to, place by place."""
    many = len(array)
    return tuple(tuple(pair(sum(ratio(much) * ratio(row[i]) * ratio(row[j]) for much, row in found)) for j in range(many))
                 for i in range(many))


def worth(array, row):
    return sum(ratio(row[i]) * ratio(array[i][j]) * ratio(row[j]) for i in range(len(row)) for j in range(len(row)))


class Arrays(Case):

    def test_the_examples(self):
        self.gives(((less,),), square_of, table=plain)
        self.assertIsNotNone(below(square_of(plain)))
        self.gives(None, squares, array=square_of(plain))
        self.is_one(is_squares, [((one, (one,)),)], array=square_of(back))

    def test_is_array(self):
        self.is_one(is_array, list(arrays()) + [of_squares(1, 40, 3)])
        self.is_none(is_array, [None, ((),), (none,), ((none, none),), ((none,), (none,)), whole_array([[1, 2], [3, 4]]),
                                "array", ((one, none), (none,)), 7, []])
        self.only_unbent(is_array, whole_array([[1, 2], [2, 5]]))
        self.is_none(is_array, [whole_array([[1, 0, 0], [0, 1, 0], [0, 1, 1]]), ((one, (2, 4)), ((2, 4), one))])

    def test_one_of_both(self):
        seen = set()
        for array in arrays():
            found, row = squares(array), below(array)
            self.gives(found, squares, array=array)
            self.gives(row, below, array=array)
            self.assertEqual(found is None, row is not None)
            seen.add(found is None)
            if found is None:
                self.assertLess(worth(array, row), 0)
                self.is_one(is_below, [row], array=array)
                self.is_none(is_squares, [(), ((one, row),)], array=array)
            else:
                self.assertLessEqual(len(found), len(array))
                self.assertTrue(all(ratio(much) > 0 for much, own in found))
                self.same(added(array, found), array)
                self.is_one(is_squares, [found, found[::-1]], array=array)
        self.assertEqual(seen, {True, False})

    def test_what_must_be(self):
        for at, array in enumerate(arrays()):
            if at % 2 == 1 and at > 15 and len(array) > 1:
                self.assertIsNotNone(squares(of_squares(at, len(array), 5, 0)))
        self.gives((), squares, array=())
        self.gives(None, below, array=())
        self.gives(None, below, array=whole_array([[0, 0], [0, 0]]))

    def test_is_squares(self):
        array = whole_array([[2, 1], [1, 1]])
        right = ((one, (one, none)), (one, (one, one)))
        self.is_one(is_squares, [right, right[::-1], (right[0], right[1], ((1, 7), (none, none))), (right[0], (half, (one, one)), (half, (one, one))),
                                 (((1, 4), ((2, 1), none)), right[1]), (right[0], (one, (less, less)))], array=array)
        self.is_none(is_squares, [right[:1], right + right, (), None, list(right), ((one, (one, none)), (one, (one, less))),
                                  right + ((none, (none, none)),), right + ((less, (none, none)),),
                                  ((one, (one, none, none)), (one, (one, one, none))), ((one, (one,)), (one, (one,))),
                                  right + ((one, (none, none), one),)], array=array)
        self.only_unbent(is_squares, right, array=array)
        self.is_one(is_squares, [(), ((one, ()),), ((half, ()), (one, ()))], array=())
        self.is_none(is_squares, [((none, ()),), None, ((one, (one,)),)], array=())

    def test_is_below(self):
        array = whole_array([[1, 2], [2, 1]])
        self.is_one(is_below, [(one, less), ((-3, 7), (3, 7))], array=array)
        self.is_none(is_below, [(one, one), (none, none), (one, none), (one,), (one, less, none), None, (), [one, less]], array=array)
        self.only_unbent(is_below, (one, less), array=array)
        self.is_none(is_below, [(), None], array=())

    def test_greatest(self):
        source = random.Random(2)
        rows = [[Fraction(source.randint(-BIG, BIG), source.randint(1, BIG)) for _ in range(10)] for _ in range(10)]
        array = whole_array([[rows[i][j] + rows[j][i] for j in range(10)] for i in range(10)])
        self.is_one(is_below, [below(array)], array=array)
        for array in (of_squares(4, 32, 40, 0), of_squares(4, 32, 40, 1)):
            if squares(array) is None:
                self.is_one(is_below, [below(array)], array=array)
            else:
                self.is_one(is_squares, [squares(array)], array=array)


class Squares(Case):

    def test_place_by_place(self):
        for seed in range(20):
            table = some_table(seed, 1 + seed % 3, seed % 4)
            parts, stages = range(len(table[0])), range(len(table[0][0]))
            found = square_of(table)
            self.gives(found, square_of, table=table)
            self.assertTrue(is_array(found))
            self.assertEqual(len(found), len(parts) * len(stages))
            for v, w, i, j in itertools.product(parts, parts, stages, stages):
                self.same(found[w * len(stages) + j][v * len(stages) + i], own_array(table, w, v)[j][i])
        self.gives((), square_of, table=empty)


class Drives(Case):

    def test_the_examples(self):
        self.gives((((), (((0, 0, 1), (-1, 2)),), (((0, 1, 0), (1, 2)),)),), drive_change, drive=drive)
        self.gives((5, 4), told_size, table=plain, drive=drive, start=(none,), points=there)

    def some_drives(self):
        for seed in range(24):
            parts, cells = 1 + seed % 3, 1 + seed % 2
            polys = tuple(some_poly(seed * 5 + part, cells, seed % 4) for part in range(parts))
            yield "damp" if seed % 2 else "turn", some_change(seed, parts, cells), polys

    def test_is_drive(self):
        for made in self.some_drives():
            self.is_one(is_drive, [made], many=len(made[1]))
            self.is_none(is_drive, [made], many=len(made[1]) + 1)
        self.is_none(is_drive, [None, (), drive[:2], drive + (1,), ("spin",) + drive[1:], ("Turn",) + drive[1:], ("turn", flat, ()),
                                ("turn", flat, drive[2] * 2), ("turn", flat * 2, drive[2]), ("turn", flat * 2, drive[2] * 2),
                                ("turn", flat, ((((0, 0), half),),)), ("turn", (((), ()),), drive[2]), ("turn", ((),), ((),)), (None, flat, drive[2])],
                     many=1)
        self.only_unbent(is_drive, drive, many=1)
        self.is_one(is_drive, [("damp", flat, ((((100,), one),),))], many=1)

    def test_drive_change(self):
        for made in self.some_drives():
            word, change, polys = made
            cells = len(change[0])
            found = drive_change(made)
            self.gives(found, drive_change, drive=made)
            self.assertTrue(is_change(found))
            self.assertEqual(len(found[0]), cells + (1 if word == "damp" else 2))
            for seed in range(3):
                state = some_state(seed, len(found[0]))
                for part in range(len(change)):
                    rates = [value(poly, state) for poly in found[part]]
                    own = value(polys[part], state[:cells])
                    expected = [value(poly, state[:cells]) for poly in change[part]]
                    if word == "damp":
                        expected.append(-own * own * ratio(state[-1]))
                    else:
                        expected += [-own * ratio(state[-1]), own * ratio(state[-2])]
                    self.assertEqual(rates, expected)

    def test_told_size(self):
        for made in self.some_drives():
            word, change, polys = made
            table = some_table(len(change[0]), len(change), 2)
            start = some_state(3, len(change[0]))
            points = tuple(some_state(at + 5, len(drive_change(made)[0])) for at in range(2))
            last = [Fraction(1)] if word == "damp" else [Fraction(1), Fraction(0)]
            for part in range(len(change)):
                for stage in range(2):
                    for cell in range(len(last)):
                        rate = value(drive_change(made)[part][len(start) + cell], points[stage])
                        last[cell] += ratio(table[1][part][stage]) * rate
            self.gives(pair(sum(x * x for x in last)), told_size, table=table, drive=made, start=start, points=points)
        # Nothing is weighed: the size stays at 1.
        self.gives(one, told_size, table=empty, drive=drive, start=(half,), points=())


def tables():
    yield from (plain, middle, back, euler, mid, implicit, empty, repeated(middle, 2), (((), ()), ((), ())))
    yield from (two, (middle[0] * 2, middle[1] * 2), scaled(middle, less), scaled(back, (2, 1)), repeated(back, 2))
    yield told(split_stage(sheet_of(back), 0, (5, 1)), 0)
    # Weights below 0 that a lot takes away, arrays on the border, one off it by little.
    yield ((((half, none), (half, none)),), (((2, 1), less),))
    yield ((((((BIG - 1), 2 * BIG),),),), ((one,),))
    yield (((((BIG + 1), 2 * BIG),),),), ((one,),)
    yield ((((half,),),), (((-1, BIG),),))
    for seed in range(40):
        yield some_table(seed, 1 + seed % 2, seed % 4, explicit=seed % 3 == 0)
    for seed in range(12):
        # Collocation alike: weights above 0 and squares.
        source = random.Random(seed)
        rows = [[Fraction(source.randint(-2, 2), 2) for _ in range(3)] for _ in range(3)]
        weights = [Fraction(source.randint(1, 3), 2) for _ in range(3)]
        matrix = [[(weights[i] * weights[j] + rows[i][j] - rows[j][i] + (i == j) * Fraction(seed % 3, 4)) / 2 / weights[i] for j in range(3)]
                  for i in range(3)]
        yield ((whole_array(matrix),), (tuple(pair(x) for x in weights),))


def solved(rows, wanted):
    """The only solution of straight equations, None if there is none or more."""
    rows = [list(row) + [x] for row, x in zip(rows, wanted)]
    for at in range(len(rows)):
        found = next((k for k in range(at, len(rows)) if rows[k][at]), None)
        if found is None:
            return None
        rows[at], rows[found] = rows[found], rows[at]
        rows[at] = [x / rows[at][at] for x in rows[at]]
        rows = [row if k == at else [x - row[at] * y for x, y in zip(row, rows[at])] for k, row in enumerate(rows)]
    return [row[-1] for row in rows]


def solution(table, made):
    """The points from 1/2, then 1 and 0, with the step 1; the first cell moves by constant rates."""
    matrices, stages = table[0], range(len(table[0][0]))
    paces = [value(part[0], ((0, 1),)) for part in made[1]]
    firsts = [Fraction(1, 2) + sum(ratio(x) * pace for matrix, pace in zip(matrices, paces) for x in matrix[i]) for i in stages]
    turns = [[value(poly, (pair(first),)) for first in firsts] for poly in made[2]]
    rows, wanted = [], []
    for i in stages:
        hung = [sum(ratio(matrix[i][k]) * own[k] for matrix, own in zip(matrices, turns)) for k in stages]
        rows.append([Fraction(i == k) for k in stages] + hung)
        rows.append([-x for x in hung] + [Fraction(i == k) for k in stages])
        wanted += [1, 0]
    found = solved(rows, wanted)
    if found is None:
        return None
    return tuple((pair(firsts[i]), pair(found[i]), pair(found[len(stages) + i])) for i in stages)


class Growths(Case):

    def test_the_examples(self):
        self.gives(False, never_grows_driven, table=plain)
        self.gives(True, never_grows_driven, table=middle)
        self.gives(True, never_grows_driven, table=back)
        self.gives(None, growth, table=back)
        self.is_one(is_growth, [(drive, (none,), there)], table=plain)
        self.is_none(is_growth, [(drive, (none,), ((none, one, one),))], table=plain)

    def looks_right(self, table, thing):
        least = least_table(table)
        (word, change, polys), start, points = thing
        self.assertTrue(is_drive(thing[0], len(table[0])))
        whole = start + ((one,) if word == "damp" else (one, none))
        self.assertTrue(is_solution(sheet_of(least), drive_change(thing[0]), whole, one, points))
        self.assertGreater(ratio(told_size(least, thing[0], start, points)), 1)

    def test_a_growth_exactly_if_it_grows(self):
        seen = {}
        for table in tables():
            never, found = never_grows_driven(table), growth(table)
            self.gives(never, never_grows_driven, table=table)
            self.gives(found, growth, table=table)
            self.assertEqual(never, found is None)
            least = least_table(table)
            low = any(x[0] < 0 for row in least[1] for x in row)
            self.assertEqual(never, not low and squares(square_of(least)) is not None)
            if found is not None:
                self.looks_right(table, found)
                self.is_one(is_growth, [found], table=table)
            seen[never] = seen.get(never, 0) + 1
        self.assertGreater(min(seen.values()), 12)

    def test_turning_cells_whose_size_stays(self):
        # All arrays are 0: turning cells, whatever drives them, keep their size.
        for table in (middle, repeated(middle, 2), scaled(middle, (-2, 3)), (middle[0] * 2, middle[1] * 2)):
            least = least_table(table)
            for seed in range(6):
                parts, stages = len(table[0]), len(least[0][0])
                change = tuple(((((0,), pair(Fraction(seed + part, 2))),) if seed + part else (),) for part in range(parts))
                polys = tuple(some_poly(seed * 3 + part, 1, 2, 3) for part in range(parts))
                made = ("turn", change, polys)
                points = solution(least, made)
                if points is not None:
                    self.assertEqual(len(points), stages)
                    self.gives(one, told_size, table=least, drive=made, start=(half,), points=points)

    def test_is_growth_of_spoilt_ones(self):
        self.only_unbent(is_growth, (drive, (none,), there), table=plain)
        self.is_none(is_growth, [(drive, (one,), there), (drive, (none, none), there), (drive, (none,), there * 2), (drive, (none,), ()),
                                 (drive, (none,), ((none, one, none, none),)), ((drive[0], flat * 2, drive[2] * 2), (none,), there),
                                 (("damp",) + drive[1:], (none,), ((none, one),)), (drive, (none,)), (drive, (none,), there, one)], table=plain)
        self.is_none(is_growth, [(drive, (none,), there)], table=middle)
        # Points are those of the least TABLE.
        twice = told(split_stage(sheet_of(plain), 0, half), 0)
        self.is_one(is_growth, [(drive, (none,), there)], table=twice)
        self.is_none(is_growth, [(drive, (none,), there * 2)], table=twice)
        # A size of just 1 is none.
        still = ("turn", flat, ((),))
        self.is_none(is_growth, [(still, (none,), there)], table=plain)

    def test_powers(self):
        for power, can in ((1, True), (24, True), (25, False)):
            # The first cell stays at 1.
            made = ("turn", flat, ((((power,), half),),))
            self.gives(can, is_growth, table=plain, thing=(made, (one,), ((one, one, none),)))
            moved = ("turn", (((((power,), one),),),), ((((0,), half),),))
            self.gives(can, is_growth, table=plain, thing=(moved, (one,), ((one, one, none),)))

    def test_greatest(self):
        for seed in range(3):
            table = some_table(seed, 2, 8, 5, 3)
            self.looks_right(table, growth(table))
        source = random.Random(1)
        big = tuple(tuple(pair(Fraction(source.randint(-BIG, BIG), source.randint(1, BIG))) for _ in range(4)) for _ in range(4))
        table = ((big,), (tuple(pair(Fraction(source.randint(1, BIG), source.randint(1, BIG))) for _ in range(4)),))
        self.looks_right(table, growth(table))


if __name__ == "__main__":
    unittest.main()
