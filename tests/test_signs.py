import itertools
import random
import unittest
from fractions import Fraction

from everychange.errors import Unfit
from everychange.flowrows import is_flowrow, normal_row
from everychange.parting import word_worth
from everychange.roworders import mix_order, order_of, row_of_order
from everychange.signs import below_parts, is_sign_paper, least_row, sign_paper, sign_steps, sign_sum
from tests.helpers import HALF, ONE, ZERO, Case, pair, ratio
from tests.test_flowrows import some_row
from tests.test_roworders import middle_row, six, three

i, o, m = ONE, ZERO, (-1, 1)
halves = ((0, HALF), (1, i), (0, HALF))
BIG = 10 ** 30


def plain_share(x, f, y):
    """The integral of (y - t) * (y - t) from x to x + f, by its powers."""
    def up_to(t):
        return y * y * t - y * t * t + t * t * t / 3
    return up_to(x + f) - up_to(x)


def plain_steps(row, a, b):
    found, x, y = [], Fraction(0), Fraction(0)
    for part, f in row:
        if part == a:
            found.append((pair(x), pair(x + ratio(f)), pair(y), pair(plain_share(x, ratio(f), y))))
            x += ratio(f)
        elif part == b:
            y += ratio(f)
    return tuple(found)


def plain_sum(row, a, b):
    return sum(number * ratio(word_worth(row, word))
               for number, word in ((2, (b, b, a)), (-2, (a, b, a)), (-2, (b, a, a)), (2, (a, a, a))))


def some_mix(seed, many=3):
    source = random.Random(seed)
    return tuple((some_row(seed * 10 + at, many, source.randrange(6)), pair(Fraction(source.randint(-3, 3), 2)))
                 for at in range(1 + seed % 4))


class LeastRows(Case):

    def test_least_row(self):
        lengths = {}
        for power in (1, 2, 3, 4, 5, 6, 40):
            lengths[1, power] = 1
        for many in (2, 3, 4):
            lengths[many, 1], lengths[many, 2] = many, 2 * many - 1
        lengths[2, 3] = 6
        for (many, power), length in lengths.items():
            row = least_row(many, power)
            self.gives(row, least_row, many=many, power=power)
            self.assertTrue(is_flowrow(row) and all(part < many for part, x in row))
            self.assertEqual(len(row), length)
            self.assertEqual(order_of(row, many), None if many == 1 else power)

    def test_unfit(self):
        for many, power in ((2, 4), (3, 3), (4, 3), (2, 5), (3, 4), (4, 40)):
            self.raises(Unfit, least_row, many=many, power=power)


class Sums(Case):

    def test_the_example(self):
        self.gives([(343, 41472), (9, 256), (-1801, 41472)], lambda row, a, b: [step[3] for step in sign_steps(row, a, b)],
                   row=six, a=0, b=1)
        self.gives(o, sign_sum, row=six, a=0, b=1)
        self.gives((0, 1), below_parts, row=six)

    def test_sign_sum_and_steps(self):
        for seed in range(40):
            row = some_row(seed, 3, seed % 8)
            for a, b in itertools.permutations(range(4), 2):
                self.gives(pair(plain_sum(row, a, b)), sign_sum, row=row, a=a, b=b)
                steps = sign_steps(row, a, b)
                self.gives(plain_steps(row, a, b), sign_steps, row=row, a=a, b=b)
                # Shares add up to the sign sum, and each is at least a twelfth of the cube, or at most.
                self.same(pair(sum((ratio(step[3]) for step in steps), Fraction(0))), sign_sum(row, a, b))
                for x, further, y, share in steps:
                    f = ratio(further) - ratio(x)
                    self.assertTrue(ratio(share) >= f ** 3 / 12 if f > 0 else ratio(share) <= f ** 3 / 12)

    def test_edges(self):
        self.gives((), sign_steps, row=(), a=0, b=1)
        self.gives(o, sign_sum, row=(), a=7, b=99)
        self.gives(((o, o, o, o), (o, i, i, (1, 3))), sign_steps, row=((5, o), (3, i), (5, i)), a=5, b=3)
        self.gives((((o), m, o, (-1, 3)),), sign_steps, row=((5, m),), a=5, b=3)
        self.gives(((o, (BIG, 1), o, pair(Fraction(BIG ** 3, 3))),), sign_steps, row=((0, (BIG, 1)), (1, i)), a=0, b=1)
        # As written: two pairs side by side are two steps, with as much together.
        steps = sign_steps(((1, i), (0, HALF), (0, HALF)), 0, 1)
        self.assertEqual(len(steps), 2)
        self.same(pair(ratio(steps[0][3]) + ratio(steps[1][3])), sign_steps(((1, i), (0, i)), 0, 1)[0][3])

    def test_below_parts(self):
        self.gives((), below_parts, row=())
        self.gives((), below_parts, row=three)
        # Only behind turns nothing is below 0, or something is.
        self.gives((), below_parts, row=((0, (2, 1)), (0, m), (1, i), (2, o)))
        self.gives((0,), below_parts, row=((0, i), (0, (-2, 1)), (1, i)))
        self.gives((1,), below_parts, row=((1, m), (0, i), (1, (3, 1)), (1, m)))
        self.gives((), below_parts, row=((0, i), (1, i), (1, m), (0, m)))
        self.gives((2, 99), below_parts, row=((99, m), (2, m), (0, i), (2, m), (99, (1, BIG))))
        for seed in range(30):
            row = some_row(seed, 4, seed)
            self.gives(tuple(sorted({part for part, x in normal_row(row) if x[0] < 0})), below_parts, row=row)

    def test_each_part_has_one_below_at_order_three(self):
        for many, row in ((2, six), (2, row_of_order(2, 3)), (2, row_of_order(2, 4)), (3, row_of_order(3, 3))):
            self.assertEqual(below_parts(row), tuple(range(many)))
            for a, b in itertools.permutations(range(many), 2):
                self.same(sign_sum(row, a, b), o)


class Papers(Case):

    def test_the_example(self):
        self.gives(True, is_sign_paper, mix=((halves, i),), thing=(1, 0, ((1, 12),), (1, 12)))

    def test_sign_paper(self):
        some_none = 0
        for seed in range(40):
            mix = some_mix(seed)
            paper = sign_paper(mix)
            self.gives(paper, sign_paper, mix=mix)
            parts = sorted({part for row, share in mix for part, x in row})
            totals = {(a, b): sum(ratio(share) * plain_sum(row, a, b) for row, share in mix)
                      for a, b in itertools.permutations(parts, 2)}
            self.assertEqual(paper is None, not any(totals.values()))
            some_none += paper is None
            if paper is not None:
                a, b, sums, total = paper
                self.same(sums, tuple(pair(plain_sum(row, a, b)) for row, share in mix))
                self.same(total, pair(totals[a, b]))
                self.assertNotEqual(total, o)
            for a, b in itertools.permutations(range(4), 2):
                sums = tuple(pair(plain_sum(row, a, b)) for row, share in mix)
                total = sum(ratio(share) * ratio(x) for (row, share), x in zip(mix, sums))
                good = a in parts and b in parts and total != 0
                self.is_one(is_sign_paper, [(a, b, sums, pair(total))] if good else [], mix=mix)
                self.is_none(is_sign_paper, [] if good else [(a, b, sums, pair(total))], mix=mix)
        self.assertGreater(some_none, 2)

    def test_none_at_order_three(self):
        self.gives(None, sign_paper, mix=((six, i),))
        self.gives(None, sign_paper, mix=(((), i),))
        self.gives(None, sign_paper, mix=((((4, i),), i),))
        mix = ((middle_row(2, 1), (-1, 3)), (middle_row(2, 2), (4, 3)))
        self.assertGreaterEqual(mix_order(mix, 2), 3)
        self.gives(None, sign_paper, mix=mix)

    def test_is_sign_paper(self):
        mix = ((halves, (2, 1)), (six, m))
        good = (0, 1, (sign_sum(halves, 0, 1), o), pair(2 * ratio(sign_sum(halves, 0, 1))))
        self.only_unbent(is_sign_paper, good, mix=mix)
        a, b, sums, total = good
        self.is_one(is_sign_paper, [sign_paper(mix)], mix=mix)
        self.is_none(is_sign_paper, [None, (), good[:3], good + (o,), (a, a, sums, total), (a, 2, sums, total),
                                     (b, b, sums, total), (a, b, sums[:1], total), (a, b, sums + (o,), total),
                                     (a, b, sums, o), (a, b, sums, pair(ratio(total) + 1)), (a, b, (sums[0], i), total),
                                     (b, a, (o, o), o), (-1, 0, sums, total)], mix=mix)
        self.is_none(is_sign_paper, [(0, 1, (o,), o), None], mix=((six, i),))

    def test_fraction_0(self):
        # A part that is moved by 0 alone counts: what the other is to it is seen.
        mix = ((((0, i), (1, o)), i),)
        self.gives((0, 1, ((1, 3),), (1, 3)), lambda mix: sign_paper(mix), mix=mix)
        self.is_one(is_sign_paper, [(0, 1, ((1, 3),), (1, 3))], mix=mix)
        self.is_none(is_sign_paper, [(1, 0, (o,), o)], mix=mix)
        self.is_none(is_sign_paper, [(0, 1, ((1, 3),), (1, 3))], mix=((((0, i),), i),))
        # So does one of a ROW that is taken 0 times.
        self.is_one(is_sign_paper, [(0, 1, ((1, 3), o), (1, 3))], mix=((((0, i),), i), (((1, o),), o)))


if __name__ == "__main__":
    unittest.main()
