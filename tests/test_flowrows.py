import itertools
import random
import unittest
from fractions import Fraction

from everychange.engine import row_series
from everychange.flowrows import (is_flowrow, is_meets, is_same, is_same_with, layers, meets_for, normal_row, normal_with,
                                  row_joined, row_scaled, row_sums, row_turned)
from tests.helpers import HALF, ONE, ZERO, Case, pair, ratio

one, half, back = ONE, HALF, (-1, 1)
there, other = ((0, one), (1, one)), ((1, one), (0, one))
three = ((1, one), (2, half), (0, one), (1, back))
near, far = there + ((0, back), (1, back)), ((0, one), (2, one), (0, back), (2, back))
BIG = 10 ** 30
SHARES = ((0, 1), (1, 1), (-1, 1), (1, 2), (-1, 2), (2, 1))


def some_row(seed, parts, pairs, shares=SHARES):
    source = random.Random(seed)
    return tuple((source.randrange(parts), source.choice(shares)) for _ in range(pairs))


def all_meets(many):
    pairs = list(itertools.combinations(range(many), 2))
    return sorted(meets for size in range(len(pairs) + 1) for meets in itertools.combinations(pairs, size))


def turned_once(row, meets):
    """The ROWS to which one turn (1), (2) or (3) leads."""
    for at, (part, x) in enumerate(row):
        if x == ZERO:
            yield row[:at] + row[at + 1:]
        if at + 1 < len(row):
            further, y = row[at + 1]
            if part == further:
                yield row[:at] + ((part, pair(ratio(x) + ratio(y))),) + row[at + 2:]
            if (min(part, further), max(part, further)) in meets:
                yield row[:at] + (row[at + 1], row[at]) + row[at + 2:]


def all_turned(row, meets):
    """All ROWS to which turns lead."""
    found, waiting = {row}, [row]
    while waiting:
        for further in turned_once(waiting.pop(), meets):
            if further not in found:
                found.add(further)
                waiting.append(further)
    return found


def shortest_turned(row, meets):
    rows = all_turned(row, meets)
    least = min(len(own) for own in rows)
    return {own for own in rows if len(own) == least}


def pairs_of(row):
    """The pairs, with those before that have to stay before: the way in which they can be brought to the front."""
    return sorted((part, ratio(x)) for part, x in row)


class Kinds(Case):

    def test_is_flowrow(self):
        self.is_one(is_flowrow, [(), there, three, ((0, ZERO), (0, ZERO)), ((7, (-3, 7)),) * 50, ((10 ** 9, one),)])
        self.is_none(is_flowrow, [None, 0, "", [], ((0,),), ((-1, one),), ((0, one, one),), ((0, (2, 4)),), ((0, (1, 0)),),
                                  ((0, 1),), (0, one), ((True, one),), ((0, (True, 1)),), ([0, one],), ((0, [1, 1]),)])
        self.only_unbent(is_flowrow, three)

    def test_is_meets(self):
        self.is_one(is_meets, [(), ((0, 1),), ((0, 1), (0, 2), (1, 2)), ((0, 5), (3, 4)), ((0, 10 ** 9),)])
        self.is_none(is_meets, [None, 3, "", [], ((1, 0),), ((0, 0),), ((0, 1), (0, 1)), ((0, 2), (0, 1)), (0, 1), ((0,),),
                                ((0, 1, 2),), ((-1, 0),), ((False, 1),), ((0, True),), ([0, 1],), ((0, one),)])
        self.only_unbent(is_meets, ((0, 1), (0, 2), (3, 4)))


class AsWritten(Case):

    def test_row_turned(self):
        self.gives(((1, (-1, 2)), (0, (-1, 1))), row_turned, row=((0, one), (1, half)))
        self.gives((), row_turned, row=())
        self.gives(((1, ZERO), (1, (1, 3))), row_turned, row=((1, (-1, 3)), (1, ZERO)))
        for seed in range(20):
            row = some_row(seed, 3, seed % 6)
            self.same(row_turned(row_turned(row)), row)
            self.same(normal_row(row_joined(row, row_turned(row))), ())
            self.same(normal_row(row_joined(row_turned(row), row)), ())

    def test_row_joined(self):
        self.gives(there + there, row_joined, row=there, other=there)
        self.gives(((0, one), (0, back)), row_joined, row=((0, one),), other=((0, back),))
        self.gives(((0, ZERO),), row_joined, row=(), other=((0, ZERO),))
        self.gives((), row_joined, row=(), other=())

    def test_row_scaled(self):
        self.gives(((0, (-1, 3)), (1, (-1, 3))), row_scaled, row=there, x=(-1, 3))
        self.gives(((0, ZERO), (1, ZERO)), row_scaled, row=there, x=ZERO)
        self.gives(((99, (BIG * BIG, 1)), (0, one)), row_scaled, row=((99, (BIG, 1)), (0, (1, BIG))), x=(BIG, 1))
        self.gives((), row_scaled, row=(), x=half)

    def test_row_sums(self):
        self.gives(((2, 1), (2, 1), (0, 1)), row_sums, row=there + there, many=3)
        self.gives((), row_sums, row=(), many=0)
        self.gives((ZERO,) * 8, row_sums, row=(), many=8)
        self.gives((one, ZERO, half), row_sums, row=three, many=3)
        for seed in range(20):
            row = some_row(seed, 4, seed)
            sums = [sum((ratio(x) for own, x in row if own == part), Fraction(0)) for part in range(5)]
            self.gives(tuple(pair(x) for x in sums), row_sums, row=row, many=5)


class Normal(Case):

    def test_the_examples(self):
        self.gives(((0, (3, 1)),), normal_row, row=((0, one), (1, half), (1, (-1, 2)), (0, (2, 1)), (2, (0, 1))))
        self.gives(False, is_same, row=there, other=other)
        self.gives(True, is_same_with, row=there, other=other, meets=((0, 1),))
        self.gives(((2, half), (0, one)), normal_with, row=three, meets=((0, 1), (1, 2)))
        self.gives((((0, one), (1, one)), ((2, half),), ((1, back),)), layers, row=three, meets=((0, 1), (0, 2)))

    def test_edges(self):
        self.gives((), normal_row, row=())
        self.gives((), normal_row, row=((0, ZERO), (1, ZERO), (0, ZERO)))
        self.gives(there, normal_row, row=there)
        self.gives(((0, (2, 1)),), normal_row, row=((0, one), (1, ZERO), (0, one)))
        self.gives((), normal_row, row=near[:2] + ((1, back), (0, back)))
        self.gives(((99, (BIG - 1, BIG)),), normal_row, row=((99, one), (99, (-1, BIG))))
        self.gives(True, is_same, row=(), other=((3, ZERO),))
        self.gives(True, is_same, row=((0, half), (0, half)), other=((0, one),))
        self.gives(False, is_same, row=((0, one),), other=((1, one),))
        self.gives((), normal_with, row=(), meets=((0, 1),))
        self.gives((), layers, row=(), meets=())
        self.gives((), layers, row=((0, ZERO), (1, one), (1, back)), meets=((0, 1),))

    def test_turns_in_any_order(self):
        for seed in range(60):
            row = some_row(seed, 1 + seed % 3, seed % 7)
            ends = {own for own in all_turned(row, ()) if not list(turned_once(own, ()))}
            self.assertEqual(ends, {normal_row(row)})
            self.gives(normal_row(row), normal_row, row=row)

    def test_meets_beside_all_turns(self):
        for seed in range(90):
            many = 2 + seed % 3
            row, meets = some_row(seed, many, 1 + seed % 6), all_meets(many)[seed * 7 % 2 ** (many * (many - 1) // 2)]
            shortest = shortest_turned(row, meets)
            least = min(shortest, key=lambda own: [part for part, x in own])
            self.gives(least, normal_with, row=row, meets=meets)
            # One alone has this tuple of parts.
            self.assertEqual([own for own in shortest if [p for p, x in own] == [p for p, x in least]], [least])
            first = {own[0] for own in shortest if own}
            found = layers(row, meets)
            self.assertEqual(set(found[0]) if found else set(), first)
            self.gives(found, layers, row=row, meets=meets)
            self.same(tuple(pair_of for layer in found for pair_of in sorted(layer)), tuple(p for l in found for p in l))
            self.assertEqual(pairs_of(p for layer in found for p in layer), pairs_of(least))

    def test_layers_one_after_another(self):
        for seed in range(60):
            many = 2 + seed % 3
            meets = all_meets(many)[seed * 5 % 2 ** (many * (many - 1) // 2)]
            row = some_row(seed, many, 4 + seed % 20)
            left, found = normal_with(row, meets), []
            while left:
                at_front = [at for at, (part, x) in enumerate(left)
                            if all((min(part, p), max(part, p)) in meets for p, y in left[:at])]
                found.append(tuple(sorted(left[at] for at in at_front)))
                left = tuple(p for at, p in enumerate(left) if at not in at_front)
            self.gives(tuple(found), layers, row=row, meets=meets)

    def test_same_with_beside_all_turns(self):
        for seed in range(150):
            many = 2 + seed % 2
            meets = all_meets(many)[seed % len(all_meets(many))]
            row, second = some_row(seed, many, 4), some_row(seed + 500, many, 2 + seed % 3)
            if seed % 3 == 0:
                second = random.Random(seed).choice(sorted(all_turned(row, meets)))
            same = bool(all_turned(row, meets) & all_turned(second, meets))
            self.gives(same, is_same_with, row=row, other=second, meets=meets)
            if not meets:
                self.gives(same, is_same, row=row, other=second)

    def test_longest_rows(self):
        row = some_row(3, 4, 40)
        whole = normal_with(row, tuple(itertools.combinations(range(4), 2)))
        self.same(whole, tuple((part, x) for part, x in enumerate(row_sums(row, 4)) if x != ZERO))
        self.same(normal_row(row + row_turned(row)), ())

    def test_rows_lead_alike(self):
        # Flows of cells of their own go together; what the engine makes of the ROWS is then equal.
        change = ((((((2, 0), one),)), ()), ((), (((0, 2), half),)), ((((0, 0), one),), ()))
        start = (one, half)
        for seed in range(12):
            row = some_row(seed, 3, 6)
            series = row_series(change, row, start, 5)
            self.same(row_series(change, normal_row(row), start, 5), series)
            for meets in (((0, 1),), ((0, 1), (1, 2)), ((1, 2),)):
                self.same(row_series(change, normal_with(row, meets), start, 5), series)


class MeetsFor(Case):

    def test_the_examples(self):
        self.gives([((0, 1),)], meets_for, row=near, other=(), many=3)
        self.gives([((0, 1),), ((0, 2),)], meets_for, row=near + far, other=far + near, many=3)
        self.gives([], meets_for, row=there, other=near, many=2)
        self.gives([()], meets_for, row=there, other=there + ((1, ZERO),), many=2)

    def test_edges(self):
        self.gives([()], meets_for, row=(), other=(), many=0)
        self.gives([()], meets_for, row=(), other=((0, ZERO),), many=1)
        self.gives([], meets_for, row=((0, one),), other=(), many=1)
        self.gives([], meets_for, row=there, other=there + there, many=4)

    def test_beside_all_meets(self):
        for seed in range(120):
            many = 2 + seed % 3
            row = some_row(seed, many, 3 + seed % 3, SHARES[1:3])
            second = tuple(random.Random(seed).sample(row, len(row)))
            if seed % 10 == 0:
                second = some_row(seed + 9, many, 4)
            if seed % 4 == 3:
                row, second = row + second + row_turned(row), second
            fit = [meets for meets in all_meets(many) if is_same_with(row, second, meets)]
            least = sorted(meets for meets in fit if not any(set(less) < set(meets) for less in fit))
            self.gives(least, meets_for, row=row, other=second, many=many)
            self.assertEqual(least == [()], is_same(row, second))
            self.assertEqual(least == [], row_sums(row, many) != row_sums(second, many))


if __name__ == "__main__":
    unittest.main()
