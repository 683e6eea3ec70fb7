import itertools
import random
import unittest
from fractions import Fraction

from everychange.changes import is_change
from everychange.damped import (growing_paper, is_alike_linear, is_growing_paper, linear_word, never_grows, quotient,
                                ray_poly, solve_poly, solves_damped, spin_change, word_change, word_weight)
from everychange.engine import run_of, series_run
from everychange.errors import Unfit
from everychange.polys import never_below, poly_value
from everychange.tables import mixed, only, repeated, scaled, sheet_of, undone
from everychange.weights import weight
from tests.helpers import HALF, ONE, ZERO, Case, pair, ratio
from tests.test_alike import hidden
from tests.test_tables import euler, none, some_table, two

zero, half, unit, less = ZERO, HALF, ONE, (-1, 1)
mid, implicit = ((((zero, zero), (half, zero)),), ((zero, unit),)), ((((half,),),), ((unit,),))
lie = ((((zero, zero), (unit, zero)), ((zero, zero), (zero, zero))), ((unit, zero), (zero, unit)))
late = ((((zero, unit), (half, (-1, 2))),), ((half, half),))
backward = ((((unit,),),), ((unit,),))
BIG = 10 ** 30
ALONE = (solve_poly, solves_damped, quotient, never_grows, growing_paper)


class Complex:
    """Numbers with an imaginary part, exactly."""

    def __init__(self, real, imaginary=0):
        self.real, self.imaginary = Fraction(real), Fraction(imaginary)

    def __add__(self, other):
        return Complex(self.real + other.real, self.imaginary + other.imaginary)

    def __mul__(self, other):
        return Complex(self.real * other.real - self.imaginary * other.imaginary,
                       self.real * other.imaginary + self.imaginary * other.real)

    def size(self):
        return self.real ** 2 + self.imaginary ** 2


def at(poly, z):
    """The value of a POWERSUM at a number with an imaginary part."""
    total = Complex(0)
    for x in reversed(poly):
        total = total * z + Complex(ratio(x))
    return total


def determinant(rows):
    """By permutations, of numbers with imaginary parts."""
    total = Complex(0)
    for order in itertools.permutations(range(len(rows))):
        term = Complex(-1 if sum(a > b for a, b in itertools.combinations(order, 2)) % 2 else 1)
        for i, k in enumerate(order):
            term = term * rows[i][k]
        total = total + term
    return total


def own_solve(table, z):
    matrix = table[0][0]
    return determinant([[Complex(int(i == k)) + Complex(-ratio(x)) * z for k, x in enumerate(row)] for i, row in enumerate(matrix)])


def own_top(table, z):
    matrix, weights = table[0][0], table[1][0]
    return determinant([[Complex(int(i == k)) + Complex(ratio(y) - ratio(x)) * z for k, (x, y) in enumerate(zip(row, weights))]
                        for i, row in enumerate(matrix)])


def tables(parts=1):
    if parts == 1:
        yield from (mid, implicit, late, backward, euler, none, undone(implicit), undone(mid), repeated(implicit, 2), repeated(mid, 2),
                    scaled(implicit, less), scaled(backward, (1, 3)))
    for seed in range(40):
        yield some_table(seed, parts, seed % 4, explicit=seed % 4 == 0)


def draws(seed):
    source = random.Random(seed)
    for _ in range(4):
        yield Complex(Fraction(source.randint(-9, 9), source.randint(1, 4)), Fraction(source.randint(-9, 9), source.randint(1, 4)))


class Words(Case):

    def test_the_example(self):
        self.gives((1, 1), word_weight, table=lie, word=(1, 0))
        self.gives([((1, 1), (1, 2), (1, 4))], lambda word, many: run_of(sheet_of(lie), word_change(word, many), (unit, zero, zero), half),
                   word=(1, 0), many=2)

    def test_word_weight(self):
        for seed, table in enumerate(tables(2)):
            for word in [word for many in range(4) for word in itertools.product((0, 1), repeat=many)]:
                # The TREE without forks whose root is of the first part.
                tree = None
                for part in reversed(word):
                    tree = (part, () if tree is None else (tree,))
                self.gives(unit if tree is None else weight(table, tree), word_weight, table=table, word=word)

    def test_no_place(self):
        self.no_place(2, word_weight, table=lie, word=(0, 2, 1, 3))
        self.no_place(-1, word_weight, table=lie, word=(-1,))
        self.no_place(1, word_weight, table=none, word=(0, 1))
        self.no_place(3, word_change, word=(0, 3, 4), many=3)
        self.no_place(0, word_change, word=(0,), many=0)
        self.no_place(-2, word_change, word=(0, -2), many=3)

    def test_word_change(self):
        self.gives((((),), ((),)), word_change, word=(), many=2)
        self.gives((((), (((1, 0, 0), unit),), ()), ((), (), (((0, 1, 0), unit),))), word_change, word=(1, 0), many=2)
        self.gives((((), (((1, 0, 0), unit),), (((0, 1, 0), unit),)),), word_change, word=(0, 0), many=1)
        for word in ((), (0,), (1, 0, 2), (0, 0, 1, 0)):
            change = word_change(word, 3)
            self.assertTrue(is_change(change))
            for seed in range(6):
                table = some_table(seed, 3, 3)
                told = run_of(sheet_of(table), change, (unit,) + (zero,) * len(word), (2, 3))[0]
                self.same(told[-1], pair(ratio(word_weight(table, word)) * Fraction(2, 3) ** len(word)))

    def test_spin_change(self):
        self.gives((((((0, 1), (-3, 1)), ((1, 0), half)), (((0, 1), half), ((1, 0), (3, 1)))),), spin_change, p=half, q=(3, 1))
        self.gives((((), ()),), spin_change, p=zero, q=zero)
        self.gives((((((1, 0), less),), (((0, 1), less),)),), spin_change, p=less, q=zero)
        self.gives((((((0, 1), less),), (((1, 0), unit),)),), spin_change, p=zero, q=unit)
        for table in (mid, euler, repeated(mid, 2)):
            for z in draws(3):
                told = run_of(sheet_of(table), spin_change(pair(z.real), pair(z.imaginary)), (unit, zero), unit)[0]
                top, bottom = quotient(table)
                self.same(bottom, (unit,))
                self.assertEqual((ratio(told[0]), ratio(told[1])), (at(top, z).real, at(top, z).imaginary))

    def own_word(self, table, other, most):
        for many in range(most + 1):
            for word in itertools.product(range(len(table[0])), repeat=many):
                if word_weight(table, word) != word_weight(other, word):
                    return word
        return None

    def test_linear_word(self):
        seen = set()
        for parts in (1, 2, 3):
            for seed in range(24):
                table, other = some_table(seed, parts, 1 + seed % 3), some_table(seed + 50, parts, 1 + (seed + 1) % 3)
                if seed % 4 == 0:
                    other = hidden(table, seed)
                if seed % 4 == 1:
                    other = (table[0], tuple(row[::-1] for row in table[1]))
                # As many letters as both have stages show all.
                expected = self.own_word(table, other, len(table[0][0]) + len(other[0][0]))
                self.gives(expected, linear_word, table=table, other=other)
                self.gives(expected is None, is_alike_linear, table=table, other=other)
                seen.add((expected is None, len(expected or ())))
        self.assertGreaterEqual(len(seen), 3)

    def test_alike_on_linear_changes_alone(self):
        heun = ((((zero, zero), (unit, zero)),), ((half, half),))
        self.gives(True, is_alike_linear, table=heun, other=mid)
        self.gives(None, linear_word, table=late, other=implicit)
        self.gives(None, linear_word, table=none, other=none)
        self.gives((0,), linear_word, table=none, other=mid)
        # At a late WORD alone.
        chain = tuple(tuple(unit if k == i - 1 else zero for k in range(6)) for i in range(6))
        self.gives((0,) * 6, linear_word, table=((chain,), ((zero,) * 4 + (less, unit),)), other=((chain,), ((zero,) * 6,)))

    def test_unfit(self):
        for table, other in ((mid, two), (lie, implicit), (none, (((), ()), ((), ())))):
            self.raises(Unfit, linear_word, table=table, other=other)
            self.raises(Unfit, is_alike_linear, table=table, other=other)
        for function in ALONE:
            self.raises(Unfit, function, table=lie)
            self.raises(Unfit, function, table=(((), ()), ((), ())))
        self.raises(Unfit, ray_poly, table=lie, p=zero, q=unit)
        for thing in ((less, zero), None, 7):
            self.raises(Unfit, is_growing_paper, table=lie, thing=thing)


class Quotients(Case):

    def test_the_examples(self):
        self.gives((((1, 1), (1, 2)), ((1, 1), (-1, 2))), quotient, table=implicit)
        self.gives(((0, 1), (0, 1), (0, 1), (0, 1), (-1, 4)), ray_poly, table=mid, p=zero, q=unit)
        self.gives((), ray_poly, table=implicit, p=zero, q=unit)
        self.assertEqual(quotient(late), quotient(implicit))
        self.gives(((1, 1), (1, 2), (-1, 2)), solve_poly, table=late)
        self.gives(True, never_grows, table=late)
        self.gives(False, solves_damped, table=late)

    def test_at_drawn_numbers(self):
        for seed, table in enumerate(tables()):
            poly, (top, bottom) = solve_poly(table), quotient(table)
            self.gives(poly, solve_poly, table=table)
            self.gives((top, bottom), quotient, table=table)
            self.assertTrue(not poly or poly[-1] != zero)
            self.same((poly[0], bottom[0]), (unit, unit))
            for z in draws(seed):
                self.assertEqual(at(poly, z).size(), own_solve(table, z).size())
                self.assertEqual((at(poly, z).real, at(poly, z).imaginary), (own_solve(table, z).real, own_solve(table, z).imaginary))
                left, right = at(top, z) * own_solve(table, z), at(bottom, z) * own_top(table, z)
                self.assertEqual((left.real, left.imaginary), (right.real, right.imaginary))
                p, q = pair(z.real), pair(z.imaginary)
                poly_there = ray_poly(table, p, q)
                self.gives(poly_there, ray_poly, table=table, p=p, q=q)
                for x in (Fraction(-2, 3), Fraction(1), Fraction(3)):
                    there = z * Complex(x)
                    self.assertEqual(ratio(poly_value(poly_there, pair(x))), at(bottom, there).size() - at(top, there).size())

    def test_lowest_terms(self):
        for table in tables():
            top, bottom = quotient(table)
            self.assertTrue(top and bottom)
            least = quotient(mixed((table, table), (half, half)))
            # The same is told, though solve_poly is there twice.
            self.same(least, (top, bottom))

    def test_what_a_round_tells(self):
        # On y' = y from 1, as a series: top is bottom times what is told.
        change = (((((1,), unit),),),)
        for table in tables():
            top, bottom = quotient(table)
            series = series_run(sheet_of(table), change, (unit,), 6)[0][0]
            for power in range(7):
                total = sum(ratio(bottom[k]) * ratio(series[power - k]) for k in range(min(power + 1, len(bottom))))
                self.assertEqual(total, ratio(top[power]) if power < len(top) else 0)


def with_bottom(factors, top):
    """A TABLE whose solve_poly is the product of factors, and whose top, not in lowest terms, is this polynomial."""
    poly = [Fraction(1)]
    for factor in factors:
        longer = [Fraction(0)] * (len(poly) + len(factor) - 1)
        for i, x in enumerate(poly):
            for k, y in enumerate(factor):
                longer[i + k] += x * y
        poly = longer
    size = len(poly) - 1
    top, series = list(top) + [Fraction(0)] * size, [Fraction(1)]
    for power in range(1, size + 1):
        series.append(top[power] - sum(poly[k] * series[power - k] for k in range(1, power + 1)))
    # Beside ones, what the matrix makes of them, and so on, the matrix is a companion's, and the weights are the series.
    companion = [[Fraction(i == k + 1) if k < size - 1 else -poly[size - i] for k in range(size)] for i in range(size)]
    # Those are told by a basis whose first column are ones.
    basis = [[Fraction(k == 0 or i == k) for k in range(size)] for i in range(size)]
    back = [[Fraction(i == k) - (k == 0 and i > 0) for k in range(size)] for i in range(size)]

    def by(left, right):
        return [[sum(x * right[k][j] for k, x in enumerate(row)) for j in range(len(right[0]))] for row in left]
    matrix = by(by(basis, companion), back) if size else []
    weights = by([series[1:]], back)[0] if size else []
    return ((tuple(tuple(pair(x) for x in row) for row in matrix),), (tuple(pair(x) for x in weights),))


class Damped(Case):

    def looks_right(self, table, thing):
        p, q = thing
        z = Complex(ratio(p), ratio(q))
        self.assertLessEqual(ratio(p), 0)
        self.assertNotEqual(own_solve(table, z).size(), 0)
        self.assertGreater(own_top(table, z).size(), own_solve(table, z).size())

    def test_the_examples(self):
        self.is_one(is_growing_paper, [(less, zero)], table=undone(implicit))
        self.is_none(is_growing_paper, [(less, zero)], table=late)

    def test_a_paper_exactly_if_it_grows(self):
        seen = {}
        for table in tables():
            never, found = never_grows(table), growing_paper(table)
            self.gives(never, never_grows, table=table)
            self.gives(found, growing_paper, table=table)
            self.assertEqual(never, found is None)
            if found is not None:
                self.looks_right(table, found)
                self.is_one(is_growing_paper, [found], table=table)
            else:
                self.assertTrue(never_below(ray_poly(table, zero, unit)))
                for seed in range(3):
                    for z in draws(seed):
                        z = Complex(-abs(z.real), z.imaginary)
                        if own_solve(table, z).size():
                            self.assertLessEqual(own_top(table, z).size(), own_solve(table, z).size())
            seen[never] = seen.get(never, 0) + 1
        self.assertGreater(min(seen.values()), 6)

    def test_known_ones(self):
        for table, never in ((implicit, True), (backward, True), (euler, False), (mid, False), (none, True), (late, True),
                             (repeated(implicit, 3), True), (undone(backward), False), (undone(euler), False),
                             (undone(implicit), False), (scaled(implicit, less), False)):
            self.gives(never, never_grows, table=table)
        # A weight of 1 and a stage at 1/2, or a little less or more.
        for x, never in (((1, 2), True), ((BIG - 1, 2 * BIG), False), ((BIG // 2 + 1, BIG), True)):
            x = pair(ratio(x))
            table = ((((x,),),), ((unit,),))
            self.gives(never, never_grows, table=table)
            if not never:
                self.looks_right(table, growing_paper(table))

    def test_solves_damped(self):
        right, left, line = ((1, -1),), ((1, 1),), ((1, 0, 4),)
        for factors, can in ((right, True), (left, False), (line, False), (right * 3, True), (line * 2, False), (right + line, False),
                             (((1, -1, 1),), True), (((1, 1, 1),), False), (((1, -1, 1), (1, -2, 7)), True), (((1, -1, 1), (1, 0, 7)), False),
                             (((1, -1, 1), (1, 1, 1)), False), (((1, -1), (1, 1)), False), (((1, 0, -1),), False), (right * 8, True),
                             (((1, -1, 10 ** 6),), True), (((1, Fraction(-1, 10 ** 30), 1),) * 2, True), (((1, Fraction(1, 10 ** 30), 1),) * 2, False),
                             (((1, -1, 1), (1, -2, 7), (1, -3), (1, Fraction(-1, 10 ** 9), 5)), True),
                             (((1, -1, 1), (1, -2, 7), (1, -3), (1, 0, 5)), False), ((), True)):
            table = with_bottom(factors, [Fraction(1)])
            for z in draws(len(factors)):
                product = Complex(1)
                for factor in factors:
                    product = product * at([pair(Fraction(x)) for x in factor], z)
                self.assertEqual(at(solve_poly(table), z).size(), product.size())
            self.gives(can, solves_damped, table=table)

    def test_border(self):
        half_there = Fraction(1, 2)
        for factors, top, never in (
                # Roots on the line with nothing to take them away, and common roots.
                (((1, 0, 4),), (1, 0, 1), False), (((1, 0, 4),), (1, 0, 4), True), (((1, 1),), (1, 1), True), (((1, 1), (1, -1)), (1, 1), True),
                (((1, 0, 4), (1, -half_there)), (1, half_there, 4, 2), True), (((1, 1),), (1,), False), (((1, 1), (1, 1)), (1, 1), False),
                (((1, -1), (1, -1)), (1,), True), (((1, 1), (1, 1)), (1, 2, 1), True), (((1, 0, 4), (1, 0, 4)), (1, 0, 4), False),
                # Just on the line: the size is that of the start on it.
                (((1, -half_there),), (1, half_there), True), (((1, -1, Fraction(1, 3)),), (1, 1, Fraction(1, 3)), True),
                # A root to the left, though on the line nothing grows.
                (((1, half_there),), (1, -half_there), False), (((1, 1, 1),), (1, -1, 1), False), (((1, 1),), (1, Fraction(10 ** 9 - 1, 10 ** 9)), False),
                (((1, 2, 5), (1, -1)), (1, 2, Fraction(5) - Fraction(1, 10 ** 6)), False)):
            table = with_bottom(factors, [Fraction(x) for x in top])
            for z in draws(7):
                left, right = own_top(table, z), at([pair(Fraction(x)) for x in top], z)
                self.assertEqual((left.real, left.imaginary), (right.real, right.imaginary))
            self.gives(never, never_grows, table=table)
            found = growing_paper(table)
            self.assertEqual(found is None, never)
            if not never:
                self.looks_right(table, found)
                self.is_one(is_growing_paper, [found], table=table)

    def test_a_root_to_the_left_that_is_nearly_taken_away(self):
        for k in (3, 9, 20):
            little = Fraction(1, 10 ** k)
            factors = ((1, Fraction(3, 7), Fraction(5, 11)), (1, Fraction(-1, 3)), (1, Fraction(-1, 2), Fraction(1, 20)))
            table = with_bottom(factors, [Fraction(1), Fraction(3, 7) - little, Fraction(5, 11) - 2 * little])
            self.gives(False, never_grows, table=table)
            found = growing_paper(table)
            self.assertNotEqual(found[0], zero)
            self.looks_right(table, found)

    def test_what_is_none(self):
        self.only_unbent(is_growing_paper, (less, zero), table=undone(implicit))
        self.is_one(is_growing_paper, [(less, zero), ((-1, 3), (1, 7))], table=undone(implicit))
        self.is_none(is_growing_paper, [(unit, zero), ((1, BIG), zero), (zero, zero), (less,), (less, zero, zero), [less, zero], None,
                                        # There the points have no one solution.
                                        ((-2, 1), zero)], table=undone(implicit))
        # On the line the size is just 1.
        self.is_none(is_growing_paper, [(zero, unit), (zero, (5, 1))], table=undone(implicit))
        self.is_none(is_growing_paper, [(zero, zero), ((-2, 1), zero)], table=euler)
        self.is_one(is_growing_paper, [(zero, unit), ((-5, 2), zero), ((-2, 1), (1, BIG))], table=euler)

    def test_greatest(self):
        source = random.Random(4)

        def number():
            return pair(Fraction(source.randint(-BIG, BIG), source.randint(1, BIG)))
        table = ((tuple(tuple(number() for _ in range(5)) for _ in range(5)),), (tuple(number() for _ in range(5)),))
        self.looks_right(table, growing_paper(table))
        table = some_table(5, 1, 8, 4, 4)
        found = growing_paper(table)
        self.assertEqual(found is None, never_grows(table))
        self.assertEqual(found is None, not is_growing_paper(table, found))
        self.same(quotient(only(table, 0)), quotient(table))


if __name__ == "__main__":
    unittest.main()
