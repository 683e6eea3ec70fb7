import random
import unittest
from fractions import Fraction

from everychange.flowloops import (first_apart, is_form_row, is_product, is_seen_through, product_at, row_rounds, same_at,
                                   seen_through)
from everychange.flowpower import ring_of
from everychange.flowrows import is_flowrow, is_same, normal_row, row_joined, row_turned
from tests.helpers import HALF, ONE, ZERO, Case, pair, ratio
from tests.test_flowrows import some_row

i, o, m = ONE, ZERO, (-1, 1)
forth, back = ((0, i), (1, i)), ((1, i), (0, i))
loop, split = ((forth, (0, 1)),), ((((0, i),), (0, 1)), (((1, i),), (0, 1)))
BIG = 10 ** 30


def plain_rounds(row, n):
    return normal_row((row if n >= 0 else row_turned(row)) * abs(n))


def plain_product(product, n):
    found = ()
    for row, (c, d) in product:
        found = normal_row(found + plain_rounds(row, c + d * n))
    return found


def some_product(seed, hanging):
    """A PRODUCT with so many pairs whose d is not 0."""
    source = random.Random(seed)
    ds = [source.choice((1, -1)) for _ in range(hanging)] + [0] * source.randrange(3)
    source.shuffle(ds)
    return tuple((some_row(seed * 10 + at, 2, source.randrange(4), ((1, 1), (-1, 1))), (source.randint(-2, 2), d))
                 for at, d in enumerate(ds))


class Through(Case):

    def looks_right(self, row, other):
        found = seen_through(row, other)
        self.gives(found, seen_through, row=row, other=other)
        if found is not None:
            self.assertTrue(is_flowrow(found))
            self.assertTrue(is_same(found + row + row_turned(found), other))
            self.is_one(is_seen_through, [found], row=row, other=other)
        return found

    def test_the_example(self):
        self.gives(True, is_seen_through, row=forth, other=back, thing=((0, m),))
        self.assertIsNotNone(self.looks_right(forth, back))

    def test_beside_the_rings(self):
        seen = set()
        for seed in range(80):
            row = some_row(seed, 2 + seed % 2, seed % 7)
            outside = some_row(seed + 100, 3, seed % 5)
            other = outside + row + row_turned(outside)
            self.assertIsNotNone(self.looks_right(row, other))
            self.assertIsNotNone(self.looks_right(other, row))
            at = seed % (len(row) + 1)
            self.assertIsNotNone(self.looks_right(row, row[at:] + row[:at]))
            second = some_row(seed + 500, 2, seed % 6)
            rings = [ring_of(own)[1] for own in (row, second)]
            alike = rings[0] == rings[1] or any(rings[0][k:] + rings[0][:k] == rings[1] for k in range(len(rings[0])))
            seen.add(alike)
            self.assertEqual(self.looks_right(row, second) is not None, alike)
        self.assertEqual(seen, {True, False})

    def test_none(self):
        for row, other in ((forth, ()), ((), forth), (((0, i),), ((1, i),)), (((0, i),), ((0, HALF),)), (forth, forth + forth),
                           (forth, row_turned(forth)), (((0, i), (1, i), (0, m), (1, m)), ((0, i), (1, m), (0, m), (1, i))),
                           (((0, i), (1, HALF)), ((0, HALF), (1, i)))):
            self.gives(None, seen_through, row=row, other=other)

    def test_edges(self):
        self.assertTrue(is_same(self.looks_right((), ((0, i), (0, m))), ()))
        self.assertIsNotNone(self.looks_right(((3, HALF),), ((0, i), (3, HALF), (0, m))))
        # A ring with its ends joined anew.
        self.assertIsNotNone(self.looks_right(((0, i), (1, i), (0, i)), ((0, (2, 1)), (1, i))))
        commutator = forth + ((0, m), (1, m))
        self.assertIsNotNone(self.looks_right(commutator, ((1, m), (0, i), (1, i), (0, m))))

    def test_is_seen_through(self):
        self.only_unbent(is_seen_through, ((0, m),), row=forth, other=back)
        self.is_one(is_seen_through, [((0, m),), ((1, i),), ((1, i), (0, i), (1, i)), ((0, HALF), (0, (-3, 2)), (2, o))],
                    row=forth, other=back)
        self.is_none(is_seen_through, [None, (), ((0, i),), ((0, HALF),), ((1, m),), ((2, i),), (0, m), [(0, m)]],
                     row=forth, other=back)
        self.is_one(is_seen_through, [(), forth, row_turned(forth), ((0, i), (0, m))], row=forth, other=forth)
        self.is_none(is_seen_through, [None, (), forth], row=forth, other=())


class Rounds(Case):

    def test_row_rounds(self):
        for seed in range(20):
            row = some_row(seed, 3, seed % 7)
            for n in (0, 1, 2, 5, -1, -3):
                self.gives(plain_rounds(row, n), row_rounds, row=row, n=n)
        for n in (40, -40):
            self.same(row_rounds(some_row(3, 4, 40), n), plain_rounds(some_row(3, 4, 40), n))
        self.gives((), row_rounds, row=forth, n=0)
        self.gives((), row_rounds, row=(), n=40)
        self.gives(((0, (40, 1)),), row_rounds, row=((0, HALF), (0, HALF)), n=40)
        self.gives(((1, i), (0, (-20, 1)), (1, m)), row_rounds, row=((1, i), (0, HALF), (1, m)), n=-40)
        self.gives(back[::-1] + back[::-1], row_rounds, row=forth, n=2)


class Products(Case):

    def test_is_product(self):
        self.is_one(is_product, [(), loop, split, ((forth, (BIG, 0)), ((), (-3, -1))), ((((0, o),) * 50, (0, 1)),) * 20])
        self.is_none(is_product, [None, 0, [], "", (forth,), (forth, (0, 1)), ((forth, (0, 2)),), ((forth, (0, -2)),),
                                  ((forth, (0,)),), ((forth, (0, 1, 0)),), ((forth, 1),), ((forth, (0, 1), ()),),
                                  ((forth, (HALF, 1)),), ((((0, 1),), (0, 1)),), ((None, (0, 1)),), ((forth, (0, True)),),
                                  ((forth, (False, 1)),)])
        self.only_unbent(is_product, ((forth, (2, -1)), (((1, HALF),), (0, 0))))

    def test_product_at(self):
        for seed in range(20):
            product = some_product(seed, seed % 4)
            for n in (0, 1, 2, -3, 7):
                self.gives(plain_product(product, n), product_at, product=product, n=n)
        self.gives((), product_at, product=(), n=100)
        self.gives(((0, (140, 1)),), product_at, product=((((0, i),), (40, 1)),), n=100)
        self.gives(((0, (-60, 1)),), product_at, product=((((0, i),), (40, 1)),), n=-100)
        self.gives(((0, (60, 1)),), product_at, product=((((0, i),), (-40, -1)),), n=-100)
        self.gives((), product_at, product=((forth, (3, -1)), (forth, (-3, 1))), n=-100)

    def test_the_examples(self):
        self.gives(2, first_apart, product=loop, other=split)
        self.gives(None, first_apart, product=((((0, i),), (1, 0)), (back, (0, 1))), other=((forth, (0, 1)), (((0, i),), (1, 0))))

    def test_first_apart_one_by_one(self):
        seen = set()
        for seed in range(60):
            many = seed % 3
            product, other = some_product(seed, many), some_product(seed + 200, (seed // 3) % 3)
            if seed % 5 == 0:
                other = product + ((forth, (0, 1)), (forth, (0, -1)))
            if seed % 5 == 1:
                # The first of them goes through once more, and back again.
                other = tuple((row, (c, d)) for row, (c, d) in product) + ((forth, (2, 0)), (row_turned(forth), (2, 0)))
            apart = [n for n in range(40) if plain_product(product, n) != plain_product(other, n)]
            first = apart[0] if apart else None
            seen.add(first)
            self.gives(first, first_apart, product=product, other=other)
            self.gives(first, first_apart, product=other, other=product)
        self.assertTrue({None, 0, 1} <= seen)

    def test_late(self):
        one, two = ((0, i),), ((1, i),)
        product = ((one, (0, 1)), (two, (0, 1)))
        self.gives(2, first_apart, product=product, other=((forth, (0, 1)),))
        shifted = ((one, (-1, 1)), (two, (-1, 1)))
        self.gives(0, first_apart, product=shifted, other=((forth, (-1, 1)),))
        # For n = 0 and for n = 1 one of the two is gone through 0 times.
        self.gives(2, first_apart, product=((one, (0, 1)), (two, (-1, 1))), other=((two, (-1, 1)), (one, (0, 1))))
        self.gives(0, first_apart, product=((one, (-40, 1)),), other=())
        self.gives(None, first_apart, product=((one, (-40, 1)), (one, (40, -1))), other=())
        self.gives(None, first_apart, product=(), other=())
        self.gives(None, first_apart, product=(), other=(((), (5, 1)), (forth, (0, 0))))
        self.gives(0, first_apart, product=(), other=((forth, (1, 0)),))
        self.gives(1, first_apart, product=(), other=((forth, (0, 1)),))

    def test_four_that_hang_on_the_number(self):
        product = ((forth, (0, 1)), (back, (0, -1)))
        other = ((((0, i),), (1, 0)), (back, (0, 1)), (((0, m),), (1, 0)), (back, (0, -1)))
        self.gives(None, first_apart, product=product, other=other)
        apart = [n for n in range(20) if plain_product(product, n) != plain_product(split + split, n)]
        self.gives(apart[0], first_apart, product=product, other=split[:1] + split[1:])


class FormRows(Case):

    def test_is_form_row(self):
        self.is_one(is_form_row, [(), ((0, (o, o)),), ((0, (HALF, m)), (0, (HALF, m))), ((99, ((BIG, 1), (1, BIG))),) * 60])
        self.is_none(is_form_row, [None, (0, (o, o)), ((0, o),), forth, ((0, (o,)),), ((0, (o, o, o)),), ((-1, (o, o)),),
                                   ((0, (o, (2, 2))),), ((True, (o, o)),), ((0, [o, o]),), ((0, (o, 1)),), [], "", 5])
        self.only_unbent(is_form_row, ((0, (HALF, m)), (1, (o, i))))

    def test_the_example(self):
        self.gives(((0, 1),), same_at, row=((0, (o, i)), (1, (i, o)), (0, (o, m))), other=((1, (i, o)),))

    def at(self, row, n):
        return tuple((part, pair(ratio(u) + ratio(v) * n)) for part, (u, v) in row)

    def test_beside_drawn_fractions(self):
        seen = set()
        for seed in range(200):
            source = random.Random(seed)
            def form():
                return tuple(pair(Fraction(source.randint(-2, 2), source.randint(1, 2))) for _ in range(2))
            row = tuple((source.randrange(2), form()) for _ in range(seed % 6))
            other = tuple((source.randrange(2), form()) for _ in range(seed % 3))
            if seed % 4 == 0:
                # Equal where the form between the two is 0, and where it is what both turn back.
                u, v = form()
                row, other = other + ((0, (u, v)), (1, form()), (0, (pair(-ratio(u)), pair(-ratio(v))))), other
                other = other + row[len(other) + 1:len(other) + 2]
            found = same_at(row, other)
            seen.add(found if found is None else len(found))
            self.gives(found, same_at, row=row, other=other)
            if found is not None:
                self.assertEqual(list(found), sorted(set(found), key=lambda x: ratio(x)))
                self.assertLessEqual(len(found), len(row) + len(other))
            for top in range(-12, 13):
                for bottom in (1, 2, 3, 4, 5, 6):
                    n = Fraction(top, bottom)
                    same = is_same(self.at(row, n), self.at(other, n))
                    self.assertEqual(same, found is None or pair(n) in found)
        self.assertTrue({None, 0, 1} <= seen)

    def test_edges(self):
        self.gives(None, same_at, row=(), other=())
        self.gives(None, same_at, row=((0, (o, o)),), other=())
        self.gives(None, same_at, row=((0, (HALF, i)), (0, (HALF, m))), other=((0, (i, o)),))
        self.gives((), same_at, row=((0, (i, o)),), other=())
        self.gives((), same_at, row=((0, (o, i)), (1, (i, o))), other=((1, (i, o)), (0, (i, i))))
        self.gives(((-1, 2),), same_at, row=((0, (i, (2, 1))),), other=())
        self.gives(((BIG, 1),), same_at, row=((0, ((-BIG, 1), i)),), other=())
        self.gives(((-1, 1), (1, 1)), same_at, other=((1, (i, i)), (0, (m, i))), row=((0, (m, i)), (1, (i, i))))
        # Ascending as quotients.
        third, fourth = (0, ((-1, 3), i)), (1, ((-1, 2), i))
        self.gives(((1, 3), (1, 2)), same_at, row=(third, fourth), other=(fourth, third))
        self.gives(((-2, 1), (-3, 2)), same_at, row=((0, ((2, 1), i)), (1, (i, (2, 3)))),
                   other=((1, (i, (2, 3))), (0, ((2, 1), i))))

    def test_more_than_two(self):
        a, b = ((0, (o, i)), (1, (m, i))), ((1, (m, i)), (0, (o, i)))
        self.gives(((0, 1), (1, 1)), same_at, row=a, other=b)
        c, d = ((0, (o, i)), (1, (m, i)), (0, ((-2, 1), i))), ((0, ((-2, 1), i)), (1, (m, i)), (0, (o, i)))
        self.gives(((1, 1),), same_at, row=c, other=d)


if __name__ == "__main__":
    unittest.main()
