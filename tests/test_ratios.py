import itertools
import math
import random
import unittest
from fractions import Fraction

from everychange import ratios
from everychange.errors import BadLine, CanNot, Unfit
from everychange.ratios import (applied, combination, dot, fraction, in_space, is_fraction, is_less, is_row, is_space,
                                minus, over, plus, power_of, product, rank, ratio_by, ratio_text, sign_of, space_of,
                                times, whole, zeros_of)
from tests.helpers import HALF, ONE, ZERO, Case, pair, ratio

BIG = 10 ** 30


def some_fractions(seed, many, top=6, bottom=4):
    source = random.Random(seed)
    return tuple(pair(Fraction(source.randint(-top, top), source.randint(1, bottom))) for _ in range(many))


def some_rows(seed, many, length, top=3, bottom=2):
    row = some_fractions(seed, many * length, top, bottom)
    return tuple(row[at * length:(at + 1) * length] for at in range(many))


def big_fractions(seed, many):
    source = random.Random(seed)
    return tuple(pair(Fraction(source.randint(-BIG, BIG), source.randint(1, BIG))) for _ in range(many))


class Fractions(Case):

    def test_is_fraction(self):
        self.is_one(is_fraction, [(0, 1), (1, 1), (-7, 2), (BIG, BIG - 1), (10 ** 200 + 1, 10 ** 200), (-1, 3)])
        self.is_none(is_fraction, [(0, 2), (2, 4), (1, 0), (0, 0), (1, -1), (-3, -2), (3,), (3, 1, 1), (), 3, "3/1",
                                   (-6, 3), (10 ** 31, 10 ** 31)])
        self.only_unbent(is_fraction, (3, 2))

    def test_fraction(self):
        for top, bottom in itertools.product(range(-6, 7), range(-6, 7)):
            if bottom:
                self.gives(pair(Fraction(top, bottom)), fraction, top=top, bottom=bottom)
            else:
                self.raises(Unfit, fraction, top=top, bottom=bottom)

    def test_whole(self):
        for number in (0, 1, -5, BIG):
            self.gives((number, 1), whole, number=number)

    def test_sums_and_products(self):
        xs = some_fractions(1, 12) + (ZERO, ONE) + big_fractions(2, 3) + ((1, BIG), (-BIG, 1))
        for x, y in itertools.product(xs, xs):
            self.same(plus(x, y), pair(ratio(x) + ratio(y)))
            self.same(minus(x, y), pair(ratio(x) - ratio(y)))
            self.same(times(x, y), pair(ratio(x) * ratio(y)))
            self.same(is_less(x, y), ratio(x) < ratio(y))
            if y[0]:
                self.same(over(x, y), pair(ratio(x) / ratio(y)))
        for function, worth in ((plus, (2, 1)), (minus, (1, 1)), (times, (3, 4)), (over, (3, 1))):
            self.gives(worth, function, x=(3, 2), y=(1, 2))
        self.gives((0, 1), plus, x=ZERO, y=ZERO)
        self.gives((3, 2), plus, x=ZERO, y=(3, 2))
        self.gives((3, 2), minus, x=(3, 2), y=ZERO)

    def test_nothing_is_divided_by_0(self):
        self.raises(Unfit, over, x=ONE, y=ZERO)
        self.raises(Unfit, over, x=ZERO, y=ZERO)
        self.gives(ZERO, over, x=ZERO, y=(-2, 3))

    def test_power_of(self):
        for x in ((2, 3), (-2, 3), (-1, 1), ONE, (BIG, BIG + 1)):
            for many in (-60, -7, -1, 0, 1, 2, 13, 60):
                self.gives(pair(ratio(x) ** many), power_of, x=x, many=many)
        self.gives(ONE, power_of, x=ZERO, many=0)
        self.gives(ZERO, power_of, x=ZERO, many=3)
        self.raises(Unfit, power_of, x=ZERO, many=-1)

    def test_signs(self):
        self.gives(True, is_less, x=(1, 3), y=(1, 2))
        self.gives(False, is_less, x=(1, 2), y=(1, 2))
        self.gives(True, is_less, x=(-1, 2), y=(1, -2 + 5))
        for x, sign in (((-1, 2), -1), (ZERO, 0), ((5, 3), 1)):
            self.gives(sign, sign_of, x=x)


class Texts(Case):

    def test_texts(self):
        for x, text in (((-7, 2), "-7/2"), ((3, 1), "3"), (ZERO, "0"), ((-1, 1), "-1"), ((1, 10), "1/10")):
            self.gives(text, ratio_text, x=x)
            self.gives(x, ratio_by, text=text)

    def test_however_many_figures(self):
        for many in (59, 60, 61, 120, 5000, 12345):
            for number in (10 ** many, 10 ** many - 1, 10 ** many + 7):
                self.assertEqual(ratio_text((number, 1)), self.figures(number))
        number = 7 ** 9000
        self.assertEqual(ratio_text((-number, number + 1)), "-" + self.figures(number) + "/" + self.figures(number + 1))

    def figures(self, number):
        found = []
        while number:
            number, figure = divmod(number, 10 ** 9)
            found.append(str(figure) if number == 0 else f"{figure:09d}")
        return "".join(reversed(found))

    def test_there_and_back(self):
        for x in big_fractions(3, 20) + some_fractions(4, 50) + ((10 ** 180, 10 ** 180 + 1),):
            self.assertEqual(ratio_by(ratio_text(x)), x)

    def test_texts_of_none(self):
        for text in ("6/4", "3/1", "-0", "07", "", "-", "/", "1/", "/2", "1/0", "0/1", "0/5", "+1", " 1", "1 ", "1 /2",
                     "1/-2", "--1", "1/2/3", "1.5", "a", "1/02", "00", "-0/1", "1_0", "\u0661", "\u00b2", "1\n", "1e3",
                     "1" * 399 + "x", "-1/1", "2/2"):
            self.same(self.raises(BadLine, ratio_by, text=text).line, 1)

    def test_long_texts(self):
        self.gives((10 ** 399, 1), ratio_by, text="1" + "0" * 399)
        self.gives((-(10 ** 199), 3), ratio_by, text="-1" + "0" * 199 + "/3")


def rref(rows, many):
    """The SPACE of rows, by the plain way with Python's own fractions."""
    lines = [[ratio(x) for x in row] for row in rows]
    done = 0
    for column in range(many):
        found = [at for at in range(done, len(lines)) if lines[at][column]]
        if not found:
            continue
        lines[done], lines[found[0]] = lines[found[0]], lines[done]
        lines[done] = [x / lines[done][column] for x in lines[done]]
        for at in range(len(lines)):
            if at != done:
                lines[at] = [x - lines[at][column] * y for x, y in zip(lines[at], lines[done])]
        done += 1
    return tuple(tuple(pair(x) for x in line) for line in lines[:done])


class Rows(Case):

    def test_is_row(self):
        self.is_one(is_row, [(), ], many=0)
        self.is_one(is_row, [(ONE, HALF), (ZERO, (-BIG * BIG, 7))], many=2)
        self.is_none(is_row, [(), (ONE,), (ONE, HALF, ZERO), (ONE, (2, 4)), (ONE, (1, -1)), [ONE, HALF], None], many=2)
        self.only_unbent(is_row, (ONE, HALF), many=2)

    def test_dot(self):
        self.gives(ZERO, dot, row=(), other=())
        self.gives((13, 6), dot, row=(HALF, (2, 3)), other=((3, 1), ONE))
        for seed in range(20):
            row, other = some_fractions(seed, 7), some_fractions(seed + 100, 7)
            self.same(dot(row, other), pair(sum(ratio(x) * ratio(y) for x, y in zip(row, other))))
        row, other = big_fractions(1, 40), big_fractions(2, 40)
        self.same(dot(row, other), pair(sum(ratio(x) * ratio(y) for x, y in zip(row, other))))

    def test_applied(self):
        self.gives((), applied, matrix=(), row=(ONE, HALF))
        self.gives((ZERO, ZERO), applied, matrix=((), ()), row=())
        self.gives(((5, 2), (2, 1)), applied, matrix=((ONE, ONE), (ZERO, (4, 1))), row=((2, 1), HALF))

    def test_product(self):
        self.gives((), product, matrix=(), other=((ONE,),))
        self.gives(((),), product, matrix=((ONE,),), other=((),))
        self.gives((((2, 1), ONE),), product, matrix=((ONE, ONE),), other=((ONE, HALF), (ONE, HALF)))
        matrix, other, row = some_rows(1, 3, 4), some_rows(2, 4, 5), some_fractions(3, 5)
        self.same(applied(product(matrix, other), row), applied(matrix, applied(other, row)))


class Spaces(Case):
    one, none = ONE, ZERO
    rows = ((one, (2, 1), none), ((2, 1), (4, 1), one))

    def test_the_example(self):
        one, none, rows = self.one, self.none, self.rows
        self.gives((((1, 1), (2, 1), (0, 1)), ((0, 1), (0, 1), (1, 1))), space_of, rows=rows, many=3)
        self.gives(((-2, 1), (1, 1)), combination, rows=rows, row=(none, none, one))
        self.gives((((1, 1), (-1, 2), (0, 1)),), zeros_of, rows=rows, many=3)
        self.raises(CanNot, combination, rows=rows, row=(none, one, none))

    def test_rank(self):
        self.gives(0, rank, rows=())
        self.gives(0, rank, rows=((), ()))
        self.gives(0, rank, rows=((ZERO, ZERO),))
        self.gives(2, rank, rows=self.rows)
        for seed in range(40):
            rows = some_rows(seed, 1 + seed % 5, 1 + seed % 4, 2, 2)
            self.same(rank(rows), len(rref(rows, len(rows[0]))))

    def test_space_of(self):
        self.gives((), space_of, rows=(), many=3)
        self.gives((), space_of, rows=((), ()), many=0)
        self.gives((), space_of, rows=((ZERO, ZERO),), many=2)
        for seed in range(60):
            many = 1 + seed % 5
            rows = some_rows(seed, seed % 6, many, 2, 3)
            space = space_of(rows, many)
            self.same(space, rref(rows, many))
            self.assertTrue(is_space(space, many))
            for row in rows:
                self.assertTrue(in_space(space, row))
        rows = tuple(big_fractions(seed, 4) for seed in range(3))
        self.same(space_of(rows, 4), rref(rows, 4))

    def test_big_rows(self):
        source = random.Random(5)
        rows = tuple(tuple((source.randint(-BIG, BIG), 1) for _ in range(20)) for _ in range(20))
        self.assertEqual(rank(rows), 20)
        self.assertEqual(zeros_of(rows, 20), ())
        row = tuple((source.randint(-BIG, BIG), 1) for _ in range(20))
        shares = combination(rows, row)
        self.same(applied(tuple(zip(*rows)), shares), row)

    def test_is_space(self):
        self.is_one(is_space, [()], many=0)
        self.is_one(is_space, [(), ((ONE, HALF, ZERO), (ZERO, ZERO, ONE)), ((ZERO, ONE, ZERO),)], many=3)
        self.is_none(is_space, [((ONE, HALF), (ZERO, ONE)), (((2, 1), ZERO),), ((ZERO, ZERO),), ((ONE, ONE), (ONE, ONE)),
                                ((ZERO, ONE), (ONE, ZERO)), ((ONE, ZERO, ZERO),), ((ONE,),), None, [],
                                ((ONE, ZERO), (ZERO, ZERO)), ((ONE, ZERO), (ZERO, (2, 1)))], many=2)
        self.is_none(is_space, [((),)], many=0)
        self.only_unbent(is_space, ((ONE, HALF, ZERO), (ZERO, ZERO, ONE)), many=3)

    def test_in_space(self):
        space = ((ONE, HALF, ZERO), (ZERO, ZERO, ONE))
        self.gives(True, in_space, space=space, row=((2, 1), ONE, (5, 1)))
        self.gives(True, in_space, space=space, row=(ZERO, ZERO, ZERO))
        self.gives(False, in_space, space=space, row=((2, 1), HALF, (5, 1)))
        self.gives(False, in_space, space=space, row=(ZERO, ONE, ZERO))
        self.gives(True, in_space, space=(), row=(ZERO, ZERO))
        self.gives(False, in_space, space=(), row=(ZERO, ONE))
        self.gives(True, in_space, space=(), row=())

    def test_zeros_of(self):
        self.gives(((ONE, ZERO), (ZERO, ONE)), zeros_of, rows=(), many=2)
        self.gives((), zeros_of, rows=(), many=0)
        self.gives((), zeros_of, rows=((ONE, ZERO), (ONE, ONE)), many=2)
        for seed in range(40):
            many = 1 + seed % 5
            rows = some_rows(seed, seed % 4, many, 2, 2)
            space = zeros_of(rows, many)
            self.assertTrue(is_space(space, many))
            self.assertEqual(len(space) + len(rref(rows, many)), many)
            for row, line in itertools.product(rows, space):
                self.assertEqual(dot(row, line), ZERO)

    def test_combination(self):
        self.gives((), combination, rows=(), row=(ZERO, ZERO))
        self.gives((), combination, rows=(), row=())
        self.gives((ZERO, ZERO), combination, rows=((), ()), row=())
        self.raises(CanNot, combination, rows=(), row=(ONE,))
        # 0 for each that is a sum of multiples of those before it: () itself, a twice as long one, a sum.
        first, second = (ONE, ZERO, ONE), (ZERO, ONE, ONE)
        rows = ((ZERO,) * 3, first, ((2, 1), ZERO, (2, 1)), second, (ONE, ONE, (2, 1)))
        self.gives((ZERO, (3, 1), ZERO, (-1, 2), ZERO), combination, rows=rows, row=((3, 1), (-1, 2), (5, 2)))
        self.raises(CanNot, combination, rows=rows, row=(ONE, ONE, ONE))

    def test_combinations_of_any_rows(self):
        for seed in range(60):
            many = 1 + seed % 4
            rows = some_rows(seed, 1 + seed % 5, many, 2, 2)
            row = some_fractions(seed + 1000, many, 2, 2)
            if len(rref(rows + (row,), many)) > len(rref(rows, many)):
                self.raises(CanNot, combination, rows=rows, row=row)
                continue
            shares = combination(rows, row)
            self.same(applied(tuple(zip(*rows)), shares), row)
            for at in range(len(rows)):
                if len(rref(rows[:at + 1], many)) == len(rref(rows[:at], many)):
                    self.assertEqual(shares[at], ZERO)


class Lowest(Case):

    def test_what_comes_out_is_in_lowest_terms(self):
        xs = some_fractions(9, 30)
        for x, y in itertools.product(xs, xs):
            for function in (plus, minus, times):
                top, bottom = function(x, y)
                self.assertEqual((math.gcd(top, bottom), bottom > 0), (1, True))

    def test_constants_are_fractions(self):
        self.assertTrue(is_fraction(ratios.ZERO) and is_fraction(ratios.ONE))


if __name__ == "__main__":
    unittest.main()
