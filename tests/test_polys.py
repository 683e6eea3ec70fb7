import itertools
import random
import unittest
from fractions import Fraction

from everychange.errors import Unfit
from everychange.polys import (common_divisor, divided, is_isolated, is_powersum, isolated, never_below, poly_plus,
                               poly_rate, poly_scaled, poly_times, poly_value, roots_between, square_free, trimmed)
from tests.helpers import HALF, ONE, ZERO, Case, pair, ratio

BIG = 10 ** 30


def powersum(*numbers):
    """The POWERSUM with these Fractions or whole numbers."""
    places = [pair(number) for number in numbers]
    while places and places[-1] == ZERO:
        places.pop()
    return tuple(places)


def with_roots(*roots):
    """The POWERSUM with these roots, its last FRACTION being 1."""
    places = [Fraction(1)]
    for root in roots:
        up, down = [Fraction(0)] + places, [root * x for x in places] + [Fraction(0)]
        places = [x - y for x, y in zip(up, down)]
    return powersum(*places)


def multiplied(poly, other):
    places = [Fraction(0)] * (len(poly) + len(other))
    for at, x in enumerate(poly):
        for k, y in enumerate(other):
            places[at + k] += ratio(x) * ratio(y)
    return powersum(*places)


def some_powersum(seed, degree, top=5, bottom=3):
    source = random.Random(seed)
    numbers = [Fraction(source.randint(-top, top), source.randint(1, bottom)) for _ in range(degree)]
    return powersum(*numbers, Fraction(source.randint(1, top), source.randint(1, bottom)))


NOROOTS = powersum(1, 0, 1)


class Sums(Case):

    def test_is_powersum(self):
        self.is_one(is_powersum, [(), (ONE,), (ZERO, ONE), (ZERO, ZERO, (-BIG, BIG - 1)), (ONE,) * 300])
        self.is_none(is_powersum, [(ZERO,), (ONE, ZERO), ((2, 2),), (1,), ((1, 0),), None, "", [], ONE])
        self.only_unbent(is_powersum, (ZERO, HALF))

    def test_trimmed(self):
        self.gives((), trimmed, row=())
        self.gives((), trimmed, row=(ZERO, ZERO))
        self.gives((ZERO, HALF), trimmed, row=(ZERO, HALF, ZERO, ZERO))
        self.gives((HALF,), trimmed, row=(HALF,))

    def test_plus_and_times(self):
        polys = [(), powersum(1), powersum(0, 1), powersum(-1, 2, Fraction(1, 3)), powersum(1, -2, Fraction(-1, 3))]
        polys += [some_powersum(seed, seed % 5) for seed in range(8)]
        for poly, other in itertools.product(polys, polys):
            length = max(len(poly), len(other))
            sums = [ratio(x) + ratio(y) for x, y in
                    zip(poly + (ZERO,) * (length - len(poly)), other + (ZERO,) * (length - len(other)))]
            self.gives(powersum(*sums), poly_plus, poly=poly, other=other)
            self.gives(multiplied(poly, other), poly_times, poly=poly, other=other)

    def test_scaled(self):
        poly = powersum(1, 0, Fraction(-2, 3))
        self.gives(powersum(Fraction(1, 2), 0, Fraction(-1, 3)), poly_scaled, poly=poly, x=HALF)
        self.gives((), poly_scaled, poly=poly, x=ZERO)
        self.gives((), poly_scaled, poly=(), x=HALF)

    def test_value(self):
        self.gives(ZERO, poly_value, poly=(), x=HALF)
        self.gives((1, 4), poly_value, poly=powersum(-2, 0, 1), x=(3, 2))
        self.gives((-2, 1), poly_value, poly=powersum(-2, 0, 1), x=ZERO)
        for seed in range(10):
            poly, x = some_powersum(seed, 6), Fraction(seed - 5, 3)
            self.same(poly_value(poly, pair(x)), pair(sum(ratio(y) * x ** at for at, y in enumerate(poly))))

    def test_rate(self):
        self.gives((), poly_rate, poly=())
        self.gives((), poly_rate, poly=powersum(5))
        self.gives(powersum(0, 2), poly_rate, poly=powersum(-2, 0, 1))
        self.gives(powersum(Fraction(1, 2), 6, -12), poly_rate, poly=powersum(7, Fraction(1, 2), 3, -4))


class Divisors(Case):

    def test_divided(self):
        poly = powersum(-2, 0, 1)
        self.gives((powersum(1, 1), ()), divided, poly=powersum(-2, -2, 1, 1), other=poly)
        self.gives(((), powersum(1, 1)), divided, poly=powersum(1, 1), other=poly)
        self.gives(((), ()), divided, poly=(), other=poly)
        self.gives((powersum(-4, 0, 2), ()), divided, poly=poly, other=powersum(Fraction(1, 2)))
        self.raises(Unfit, divided, poly=poly, other=())
        self.raises(Unfit, divided, poly=(), other=())

    def test_divided_is_undone_by_times(self):
        for seed in range(40):
            poly, other = some_powersum(seed, seed % 7), some_powersum(seed + 100, seed % 4)
            often, rest = divided(poly, other)
            self.assertTrue(is_powersum(often) and is_powersum(rest) and len(rest) < len(other))
            self.same(poly_plus(multiplied(often, other), rest), poly)

    def test_common_divisor(self):
        self.gives((), common_divisor, poly=(), other=())
        self.gives(powersum(Fraction(1, 2), 1), common_divisor, poly=(), other=powersum(1, 2))
        self.gives(powersum(Fraction(1, 2), 1), common_divisor, poly=powersum(-1, -2), other=())
        self.gives((ONE,), common_divisor, poly=powersum(5), other=powersum(1, 2))
        self.gives((ONE,), common_divisor, poly=powersum(5), other=())
        self.gives((ONE,), common_divisor, poly=powersum(1, 1), other=powersum(2, 1))
        for seed in range(20):
            common, first, second = some_powersum(seed, seed % 4), with_roots(seed, 1, 1), with_roots(-seed - 1, -1)
            top = common[-1]
            monic = powersum(*[ratio(x) / ratio(top) for x in common])
            found = common_divisor(multiplied(common, first), multiplied(common, second))
            self.same(divided(found, monic)[1], ())
            if not any(ratio(poly_value(common, pair(root))) == 0 for root in (seed, 1, -seed - 1, -1)):
                self.same(found, monic)

    def test_square_free(self):
        self.raises(Unfit, square_free, poly=())
        self.gives((ONE,), square_free, poly=powersum(-7))
        self.gives(powersum(-1, 0, 1), square_free, poly=powersum(1, -1, -1, 1))
        self.gives(with_roots(1, 2), square_free, poly=poly_scaled(with_roots(1, 1, 1, 2, 2), (-3, 2)))
        self.gives(multiplied(NOROOTS, with_roots(3)), square_free,
                   poly=multiplied(multiplied(NOROOTS, NOROOTS), with_roots(3, 3)))
        self.gives(with_roots(0), square_free, poly=powersum(0, 0, 0, 0, 5))


class Roots(Case):
    double = with_roots(-1, -1, 0, 2, 2, 2, Fraction(7, 2))

    def counted(self, roots, low, high):
        return len({root for root in roots
                    if (low is None or root > ratio(low)) and (high is None or root <= ratio(high))})

    def test_the_examples(self):
        poly = powersum(-2, 0, 1)
        self.gives(1, roots_between, poly=poly, low=ZERO, high=(2, 1))
        self.gives(False, never_below, poly=poly)

    def test_between(self):
        roots = (-1, 0, 2, Fraction(7, 2))
        bounds = [None] + [pair(Fraction(x, 2)) for x in range(-4, 9)]
        for low, high in itertools.product(bounds, bounds):
            if low is not None and high is not None and ratio(low) >= ratio(high):
                continue
            for poly in (self.double, poly_scaled(multiplied(self.double, NOROOTS), (-5, 3))):
                self.same(roots_between(poly, low, high), self.counted(roots, low, high))
        self.gives(2, roots_between, poly=self.double, low=(-1, 1), high=(2, 1))
        self.gives(1, roots_between, poly=self.double, low=ZERO, high=(2, 1))
        self.gives(4, roots_between, poly=self.double, low=None, high=None)
        self.gives(0, roots_between, poly=powersum(3), low=None, high=None)
        self.gives(0, roots_between, poly=NOROOTS, low=None, high=ONE)

    def test_wrong_bounds(self):
        poly, pairs = powersum(-2, 0, 1), ((ONE, (2, 1)),)
        for low, high in ((ONE, ONE), (ONE, ZERO), ((1, 2), (1, 3))):
            self.raises(Unfit, roots_between, poly=poly, low=low, high=high)
            self.raises(Unfit, isolated, poly=poly, low=low, high=high, width=ONE)
            self.raises(Unfit, is_isolated, poly=poly, low=low, high=high, width=ONE, thing=pairs)
        for low, high in ((None, None), (ZERO, ONE), (ONE, ZERO)):
            self.raises(Unfit, roots_between, poly=(), low=low, high=high)
            self.raises(Unfit, isolated, poly=(), low=low, high=high, width=ONE)
            self.raises(Unfit, is_isolated, poly=(), low=low, high=high, width=ONE, thing=None)

    def isolates(self, poly, roots, low, high, width):
        """Looks at the pairs by what the document says of them alone."""
        pairs = isolated(poly, low, high, width)
        self.same(isolated([list(x) for x in poly], low and list(low), high and list(high), list(width)), pairs)
        wanted = sorted({root for root in roots
                         if (low is None or root > ratio(low)) and (high is None or root <= ratio(high))})
        self.assertEqual(len(pairs), len(wanted))
        self.assertIsInstance(pairs, tuple)
        for (left, right), root in zip(pairs, wanted):
            left, right = ratio(left), ratio(right)
            self.assertTrue(0 < right - left <= ratio(width))
            self.assertEqual([own for own in set(roots) if left < own <= right], [root])
            self.assertTrue((low is None or left >= ratio(low)) and (high is None or right <= ratio(high)))
        self.gives(True, is_isolated, poly=poly, low=low, high=high, width=width, thing=pairs)

    def test_isolated(self):
        roots = (-1, 0, 2, Fraction(7, 2))
        bounds = [None] + [pair(Fraction(x, 2)) for x in range(-4, 9)]
        for low, high in itertools.product(bounds, bounds):
            if low is None or high is None or ratio(low) < ratio(high):
                for width in ((10, 1), HALF, (1, 1000)):
                    self.isolates(self.double, roots, low, high, width)
        self.gives((), isolated, poly=NOROOTS, low=None, high=None, width=ONE)
        self.gives((), isolated, poly=powersum(2), low=ZERO, high=None, width=ONE)
        self.gives((), isolated, poly=powersum(-9, 1), low=None, high=(-5, 1), width=ONE)
        self.gives((), isolated, poly=powersum(9, 1), low=(5, 1), high=None, width=ONE)

    def test_near_and_far_roots(self):
        near = Fraction(1, BIG)
        self.isolates(with_roots(0, near, 2 * near), (0, near, 2 * near), None, None, (1, 1))
        self.isolates(with_roots(-BIG, BIG), (-BIG, BIG), None, None, (1, BIG))
        self.isolates(with_roots(*range(1, 21)), tuple(range(1, 21)), (1, 1), (20, 1), (1, 3))
        (left, right), = isolated(powersum(-2, 0, 1), ZERO, None, (1, BIG))
        self.assertTrue(ratio(left) ** 2 < 2 <= ratio(right) ** 2)

    def test_is_isolated(self):
        poly, low, high, width = with_roots(0, 1, 1, 3), (-1, 1), (3, 1), ONE
        def asked(thing):
            return is_isolated(poly, low, high, width, thing)
        good = (((-1, 1), ZERO), (HALF, ONE), ((2, 1), (3, 1)))
        self.only_unbent(is_isolated, good, poly=poly, low=low, high=high, width=width)
        self.assertTrue(asked((((-1, 2), (1, 3)), ((1, 4), (5, 4)), ((5, 2), (3, 1)))))
        spoilt = {
            "a root is missing": good[:2],
            "one too many": good + (((3, 1), (4, 1)),),
            "another order": (good[1], good[0], good[2]),
            "one twice": (good[0], good[0], good[1]),
            "left is the root": (((0, 1), HALF), good[1], good[2]),
            "two roots": (((-1, 1), ZERO), ((-1, 2), ONE), good[2]),
            "below low": (((-3, 2), (-1, 2)), good[1], good[2]),
            "left below low": (((-9, 8), ZERO), good[1], good[2]),
            "right above high": (good[0], good[1], ((5, 2), (7, 2))),
            "wider": (good[0], good[1], ((3, 2), (3, 1))),
            "no width": (good[0], good[1], ((3, 1), (3, 1))),
            "no root": (good[0], good[1], ((2, 1), (5, 2))),
            "turned": (good[0], good[1], ((3, 1), (2, 1))),
            "a triple": (good[0], good[1], ((2, 1), (3, 1), (3, 1)))}
        for name, thing in spoilt.items():
            self.same(asked(thing), False, name)
        self.is_one(is_isolated, [()], poly=NOROOTS, low=None, high=None, width=ONE)
        self.is_none(is_isolated, [None, [], ((ZERO, ONE),)], poly=NOROOTS, low=None, high=None, width=ONE)
        # What is outside of low and high is none, be it ever so narrow.
        self.is_one(is_isolated, [(((-1, 2), ZERO),)], poly=with_roots(0), low=(-1, 2), high=HALF, width=ONE)
        self.is_none(is_isolated, [(((-3, 4), ZERO),)], poly=with_roots(0), low=(-1, 2), high=HALF, width=ONE)
        self.is_none(is_isolated, [(((-1, 4), (3, 4)),)], poly=with_roots(0), low=(-1, 2), high=HALF, width=ONE)
        self.is_one(is_isolated, [(((-9, 1), (-8, 1)),)], poly=powersum(8, 1), low=None, high=None, width=ONE)

    def test_never_below(self):
        for poly, worth in (((), True), (powersum(3), True), (powersum(-3), False), (powersum(0, 1), False),
                            (powersum(0, 0, 1), True), (powersum(0, 0, -1), False), (NOROOTS, True),
                            (with_roots(1, 1, 2, 2), True), (with_roots(1, 1, 1, 2), False),
                            (with_roots(1, 1, 1, 2, 2, 2), False), (with_roots(1, 1, 1, 1, 2, 2), True),
                            (multiplied(NOROOTS, with_roots(1, 1, 1, 1)), True),
                            (poly_scaled(with_roots(1, 1), (-1, 1)), False), (with_roots(1, 1, 1), False),
                            (powersum(1, 0, -2, 0, 1), True), (powersum(Fraction(-1, BIG), 0, 1), False),
                            (powersum(Fraction(1, BIG), 0, 1), True)):
            self.gives(worth, never_below, poly=poly)

    def test_never_below_beside_its_values(self):
        for seed in range(60):
            poly = some_powersum(seed, seed % 7, 3, 1)
            if seed % 2:
                poly = multiplied(poly, poly)
                self.assertTrue(never_below(poly))
            below = any(poly_value(poly, pair(Fraction(at, 8)))[0] < 0 for at in range(-400, 401))
            self.assertFalse(below and never_below(poly))
            if not below and not roots_between(poly, None, None):
                self.assertTrue(never_below(poly))


class Big(Case):

    def test_big_fractions(self):
        source = random.Random(1)
        def number():
            return Fraction(source.randint(-BIG, BIG), source.randint(1, BIG))
        first, second, third = [powersum(*[number() for _ in range(4)]) for _ in range(3)]
        product = poly_times(first, second)
        self.same(product, multiplied(first, second))
        self.same(divided(poly_plus(product, (ONE,)), second), (first, (ONE,)))
        self.same(poly_scaled(common_divisor(product, multiplied(second, third)), second[-1]), second)
        self.same(square_free(multiplied(product, second)), square_free(product))
        roots = sorted(number() for _ in range(5))
        poly = with_roots(*roots, roots[2])
        self.assertEqual(roots_between(poly, pair(roots[0]), pair(roots[3])), 3)
        for (left, right), root in zip(isolated(poly, None, None, (1, BIG)), roots):
            self.assertTrue(ratio(left) < root <= ratio(right))

    def test_degree_40(self):
        poly = with_roots(*range(1, 41))
        self.assertEqual(roots_between(poly, (10, 1), (30, 1)), 20)
        self.assertEqual(len(isolated(poly, None, None, (1, 10))), 40)
        self.assertEqual(square_free(poly), poly)


if __name__ == "__main__":
    unittest.main()
