import itertools
import random
import unittest
from fractions import Fraction
from math import factorial

from everychange.changes import tree_change
from everychange.engine import flow_series, row_series, unlike_at
from everychange.errors import Unfit
from everychange.flowrows import is_flowrow, is_same_with, normal_row, normal_with, row_joined, row_turned
from everychange.letters import is_lyndon, lyndon_words, shuffles
from everychange.parting import word_worth
from everychange.roworders import (commutator_row, is_row_for, joined_marks, marks_of, mix_order, order_of, order_with,
                                   row_for, row_of_order, whole_marks, worth_by)
from everychange.signs import least_row
from tests.helpers import HALF, ONE, ZERO, Case, pair, ratio
from tests.test_changes import some_change, some_state
from tests.test_flowrows import all_meets, some_row
from tests.test_letters import all_words

one, half, zero = ONE, HALF, ZERO
three = ((0, half), (1, one), (0, half))
six = ((0, (7, 24)), (1, (2, 3)), (0, (3, 4)), (1, (-2, 3)), (0, (-1, 24)), (1, one))
BIG = 10 ** 30
BOUNDS = {1: 6, 2: 6, 3: 4, 4: 3}
ROW_BOUNDS = {1: 4, 2: 4, 3: 3, 4: 2}


def middle_row(many, rounds):
    """The symmetric ROW of order 2, so many rounds with a smaller step."""
    step = tuple((part, (1, 2 * rounds)) for part in range(many - 1)) + ((many - 1, (1, rounds)),)
    return normal_row((step + step[-2::-1]) * rounds)


def words_to(many, power):
    return [word for length in range(1, power + 1) for word in all_words(many, length)]


def some_marks(seed, many, power):
    source = random.Random(seed)
    return tuple(pair(Fraction(source.randint(-3, 3), source.randint(1, 3))) for _ in lyndon_words(many, power))


def no_powers(many):
    """Lengths that MARKS of many have for no power."""
    lengths = {len(lyndon_words(many, power)) for power in range(1, 7)}
    return [length for length in range(12) if length not in lengths]


def plain_order(rows, many, most):
    """The greatest order of a MIX, by all WORDS, most at the most."""
    for length in range(1, most + 1):
        for word in all_words(many, length):
            if sum(ratio(share) * ratio(word_worth(row, word)) for row, share in rows) != Fraction(1, factorial(length)):
                return length - 1
    return most


class Marks(Case):

    def test_the_examples(self):
        self.gives(((1, 1), (1, 1), (1, 2), (1, 8), (1, 4)), marks_of, row=three, many=2, power=3)
        self.gives(((1, 2), (1, 6), (1, 6)), lambda many, power: whole_marks(many, power)[2:], many=2, power=3)
        self.gives(((1, 1), (1, 1), (1, 1)), joined_marks, marks=(one, zero, zero), others=(zero, one, zero), many=2)
        self.gives((1, 2), worth_by, marks=whole_marks(2, 2), many=2, word=(1, 0))

    def test_marks_are_worths(self):
        for many, most in BOUNDS.items():
            row = some_row(many, many, 7)
            for power in range(1, most + 1):
                self.gives(tuple(word_worth(row, word) for word in lyndon_words(many, power)), marks_of, row=row, many=many,
                           power=power)
                self.gives(tuple((1, factorial(len(word))) for word in lyndon_words(many, power)), whole_marks, many=many,
                           power=power)
        self.gives((zero,) * 5, marks_of, row=(), many=2, power=3)
        self.gives((one,), whole_marks, many=1, power=6)
        self.gives((half,), marks_of, row=((0, (BIG, 1)), (0, (1 - 2 * BIG, 2))), many=1, power=1)

    def test_worth_by(self):
        for many, most in BOUNDS.items():
            for seed in range(3):
                row = some_row(seed + 10, many, 6)
                for power in (most, 1, 2):
                    marks = marks_of(row, many, power)
                    # The MARKS for many 1 are the same for each power: they tell the worths of 6 letters.
                    let = 6 if many == 1 else power
                    for word in [()] + words_to(many, let)[::1 if seed == 0 else 7]:
                        self.same(worth_by(marks, many, word), word_worth(row, word))
                    self.raises(Unfit, worth_by, marks=marks, many=many, word=(0,) * (let + 1))
        marks = marks_of(six, 2, 4)
        self.gives(word_worth(six, (1, 1, 0, 0)), worth_by, marks=marks, many=2, word=(1, 1, 0, 0))
        self.gives(one, worth_by, marks=marks, many=2, word=())

    def test_each_row_of_fractions_are_marks(self):
        # Whatever the MARKS, the worths of two WORDS multiplied are those of their shuffles.
        for many, power in ((2, 5), (3, 4), (4, 3)):
            marks = some_marks(many, many, power)
            for word, other in (((1, 0), (0,)), ((1,), (1, 0)), ((1, 1), (0,)), ((0,), (0,))):
                total = sum(number * ratio(worth_by(marks, many, own)) for own, number in shuffles(word, other))
                self.same(pair(total), pair(ratio(worth_by(marks, many, word)) * ratio(worth_by(marks, many, other))))

    def test_joined_marks(self):
        for many, most in BOUNDS.items():
            for seed in range(4):
                row, other = some_row(seed, many, 5), some_row(seed + 30, many, 4)
                for power in {1, 2, most}:
                    self.gives(marks_of(row_joined(row, other), many, power), joined_marks, marks=marks_of(row, many, power),
                               others=marks_of(other, many, power), many=many)
        marks = some_marks(4, 2, 4)
        self.same(joined_marks(marks, (zero,) * 8, 2), marks)
        self.same(joined_marks((zero,) * 8, marks, 2), marks)

    def test_lengths_of_no_power(self):
        for many in (1, 2, 3, 4):
            for length in no_powers(many):
                marks = (half,) * length
                self.raises(Unfit, worth_by, marks=marks, many=many, word=())
                self.raises(Unfit, joined_marks, marks=marks, others=marks, many=many)
                self.raises(Unfit, row_for, many=many, marks=marks)
                self.raises(Unfit, is_row_for, many=many, marks=marks, thing=())
                self.raises(Unfit, is_row_for, many=many, marks=marks, thing=None)
        self.raises(Unfit, joined_marks, marks=(half,) * 3, others=(half,) * 2, many=2)
        self.raises(Unfit, joined_marks, marks=(half,) * 2, others=(half,) * 3, many=2)
        self.raises(Unfit, joined_marks, marks=(half,), others=(), many=1)


class Orders(Case):

    def test_the_examples(self):
        self.gives(2, order_of, row=three, many=2)
        self.gives(3, order_of, row=six, many=2)
        self.gives(None, order_with, row=((1, one), (0, one)), many=2, meets=((0, 1),))
        self.gives(0, order_with, row=three[:2], many=2, meets=())
        self.gives(1, mix_order, mix=(((), half), (((0, (2, 1)),), half)), many=1)

    def test_order_of_beside_all_words(self):
        rows = [((0, one), (1, one)), three, six, (), ((0, one),), three + row_turned(three), six + three + row_turned(six)]
        for row in rows:
            self.gives(plain_order(((row, one),), 2, 6), order_of, row=row, many=2)
        for many in (2, 3, 4):
            for rounds in (1, 2):
                self.gives(2, order_of, row=middle_row(many, rounds), many=many)
            self.gives(0, order_of, row=middle_row(many - 1, 1), many=many)
            self.gives(1, order_of, row=tuple((part, one) for part in reversed(range(many))), many=many)
        for seed in range(20):
            row = some_row(seed, 3, seed % 7)
            self.gives(plain_order(((row, one),), 3, 4), order_of, row=row, many=3)

    def test_one_part(self):
        self.gives(None, order_of, row=((0, half), (0, half)), many=1)
        self.gives(0, order_of, row=((0, half),), many=1)
        self.gives(0, order_of, row=(), many=1)
        self.gives(None, order_of, row=((0, (BIG, 1)), (0, zero), (0, (1 - BIG, 1))), many=1)
        self.gives(None, order_with, row=((0, one),), many=1, meets=())
        self.gives(0, order_with, row=((0, (2, 1)),), many=1, meets=())

    def test_the_engine_tells_the_order(self):
        for row, many in ((three, 2), (six, 2), (middle_row(3, 1), 3), (((1, one), (0, one)), 2)):
            order, found = order_of(row, many), []
            for seed in range(6):
                change, start = some_change(seed, many, 2), some_state(seed, 2)
                power = unlike_at(row_series(change, row, start, order + 1), flow_series(change, start, order + 1))
                found.append(power)
            self.assertTrue(all(power in (None, order + 1) for power in found))
            self.assertIn(order + 1, found)

    def test_order_with_no_meets(self):
        for row, many in ((three, 2), (six, 2), (middle_row(3, 1), 3), (middle_row(4, 1), 4), (three[:1], 2), ((), 3)):
            self.gives(order_of(row, many), order_with, row=row, many=many, meets=())

    def test_order_with_all_meets(self):
        for many in (2, 3, 4):
            every = tuple(itertools.combinations(range(many), 2))
            row = tuple((part, half) for part in range(many)) * 2
            self.gives(None, order_with, row=row, many=many, meets=every)
            self.gives(0, order_with, row=row[1:], many=many, meets=every)
            self.gives(0, order_with, row=row[:1], many=many, meets=every)
            self.assertEqual(order_with(row, many, every[1:]) is None, False)

    def test_order_with_beside_a_split(self):
        # Part 2 goes together with all: the order is that of the other two, if part 2 comes to 1.
        meets = ((0, 2), (1, 2))
        for row, order in ((three, 2), (six, 3), (three[::-1], 2), (((1, one), (0, one)), 1)):
            long_row = ((2, (1, 3)),) + row[:1] + ((2, (1, 3)),) + row[1:] + ((2, (1, 3)),)
            self.gives(order, order_with, row=long_row, many=3, meets=meets)
            self.gives(0, order_with, row=long_row[1:], many=3, meets=meets)
            self.assertEqual(order_of(long_row, 3) < order or order < 2, True)

    def test_order_with_beside_normal_with(self):
        # ROWS that are the same if these parts go together are of one order then.
        for seed in range(40):
            many = 2 + seed % 3
            meets = all_meets(many)[seed * 7 % len(all_meets(many))]
            row = middle_row(many, 1) if seed % 2 else tuple((part, one) for part in range(many))
            row = row + ((seed % many, half),) + some_row(seed, many, 2)
            row = row + row_turned(row[-3:]) if seed % 4 else row
            normal = normal_with(row, meets)
            self.gives(order_with(normal, many, meets), order_with, row=row, many=many, meets=meets)
            if order_with(row, many, meets) is not None:
                self.assertGreaterEqual(order_with(row, many, meets), order_of(row, many) or 0)

    def test_order_with_beside_all_words(self):
        for seed in range(30):
            many = 2 + seed % 2
            meets = all_meets(many)[seed % len(all_meets(many))]
            row = tuple((part, one) for part in range(many)) if seed % 2 else middle_row(many, 1)
            row = tuple(random.Random(seed).sample(row, len(row)))
            if seed % 3 == 0:
                row = some_row(seed, many, 5)
            order = order_with(row, many, meets)
            if order is not None:
                for length in range(1, order + 2):
                    self.assertEqual(classes_fit(row, many, meets, length), length <= order)
            self.gives(order, order_with, row=row, many=many, meets=meets)


def classes_fit(row, many, meets, length):
    """Whether the worths of the WORDS of each class of this length add up to those of the flow."""
    sums, counts = {}, {}
    for word in all_words(many, length):
        key = min(class_of(word, meets))
        sums[key] = sums.get(key, 0) + ratio(word_worth(row, word))
        counts[key] = counts.get(key, 0) + 1
    return all(sums[key] == Fraction(counts[key], factorial(length)) for key in sums)


def class_of(word, meets):
    found, waiting = {word}, [word]
    while waiting:
        own = waiting.pop()
        for at in range(len(own) - 1):
            if (min(own[at:at + 2]), max(own[at:at + 2])) in meets:
                further = own[:at] + (own[at + 1], own[at]) + own[at + 2:]
                if further not in found:
                    found.add(further)
                    waiting.append(further)
    return found


class Commutators(Case):

    def test_commutator_row(self):
        self.gives(((3, one),), commutator_row, word=(3,))
        self.gives(((0, one), (1, one), (0, (-1, 1)), (1, (-1, 1))), commutator_row, word=(0, 1))
        first, last = ((0, one),), commutator_row((0, 1))
        self.gives(first + last + row_turned(first) + row_turned(last), commutator_row, word=(0, 0, 1))
        # Its last is (1), the longest Lyndon end is (0, 1) for (0, 0, 1), (1) for (0, 1, 1).
        first, last = commutator_row((0, 1)), ((1, one),)
        self.gives(first + last + row_turned(first) + row_turned(last), commutator_row, word=(0, 1, 1))
        first, last = commutator_row((0, 2)), ((1, one),)
        self.gives(first + last + row_turned(first) + row_turned(last), commutator_row, word=(0, 2, 1))

    def test_marks_of_commutators(self):
        for many, most in ((1, 1), (2, 6), (3, 4), (4, 3)):
            words = lyndon_words(many, most)
            for at, word in enumerate(words):
                row = commutator_row(word)
                self.assertTrue(is_flowrow(row))
                marks = marks_of(row, many, len(word))
                self.same(marks[:at], (zero,) * at)
                self.same(marks[at], one)

    def test_words_of_eight_letters(self):
        word = (0, 0, 0, 1, 0, 0, 1, 1)
        self.assertTrue(is_lyndon(word))
        self.same(word_worth(commutator_row(word), word), one)


class RowsFor(Case):

    def test_row_for(self):
        self.gives(True, is_row_for, many=2, marks=((0, 1), (0, 1), one), thing=commutator_row((0, 1)))
        for many, most in ROW_BOUNDS.items():
            for power in range(1, most + 1):
                for seed in range(3):
                    marks = some_marks(seed, many, power)
                    row = row_for(many, marks)
                    self.gives(row, row_for, many=many, marks=marks)
                    self.assertTrue(is_flowrow(row) and all(part < many for part, x in row))
                    self.same(marks_of(row, many, power), marks)
                    self.is_one(is_row_for, [row], many=many, marks=marks)
        self.same(marks_of(row_for(2, ((BIG, 1), (1, BIG), (-BIG, BIG - 1))), 2, 2), ((BIG, 1), (1, BIG), (-BIG, BIG - 1)))
        self.same(normal_row(row_for(2, (zero,) * 8)), ())

    def test_row_of_order(self):
        for many, most in ROW_BOUNDS.items():
            for power in range(1, most + 1):
                row = row_of_order(many, power)
                self.gives(row, row_of_order, many=many, power=power)
                order = order_of(row, many)
                self.assertTrue(order is None if many == 1 else order >= power)

    def test_is_row_for(self):
        marks = marks_of(three, 2, 3)
        self.only_unbent(is_row_for, three, many=2, marks=marks)
        self.is_one(is_row_for, [three, three + ((1, zero),), row_for(2, marks)], many=2, marks=marks)
        self.is_none(is_row_for, [None, (), three[:2], three[::-1][:1], six, three + ((2, zero),), three + ((2, one),),
                                  three + ((0, one),), ((0, one), (1, one))], many=2, marks=marks)
        self.is_none(is_row_for, [three + ((2, zero),)], many=2, marks=marks[:2])
        self.is_one(is_row_for, [three + ((2, zero),)], many=3, marks=marks_of(three, 3, 2))
        self.is_one(is_row_for, [(), ((0, zero),)], many=1, marks=(zero,))
        self.is_none(is_row_for, [((0, one),), ((1, zero),)], many=1, marks=(zero,))

    def test_many_one(self):
        self.gives(True, is_row_for, many=1, marks=((3, 7),), thing=((0, (1, 7)), (0, (2, 7))))
        self.same(normal_row(row_for(1, ((3, 7),))), ((0, (3, 7)),))
        self.gives((1, 720), worth_by, marks=(one,), many=1, word=(0,) * 6)
        self.gives(((3, 1),), joined_marks, marks=(one,), others=((2, 1),), many=1)


class Mixes(Case):

    def richardson(self, many, rounds):
        """Rounds of the symmetric ROW, mixed so that two more orders come of each."""
        rows = []
        for n in rounds:
            share = Fraction(1)
            for other in rounds:
                if other != n:
                    share *= Fraction(n * n, n * n - other * other)
            rows.append((middle_row(many, n), pair(share)))
        return tuple(rows)

    def test_beside_all_words(self):
        mixes = [((three, one),), ((three, half), (three[::-1], half)), ((((0, one), (1, one)), half), (((1, one), (0, one)), half)),
                 self.richardson(2, (1, 2)), ((six, (2, 1)), (three, (-1, 1))), (((), one),), ((six, zero), (three, one))]
        for mix in mixes:
            self.gives(plain_order(mix, 2, 7), mix_order, mix=mix, many=2)
        self.gives(4, mix_order, mix=self.richardson(2, (1, 2)), many=2)
        self.gives(2, mix_order, mix=((((0, one), (1, one)), half), (((1, one), (0, one)), half)), many=2)

    def test_lyndon_words_are_not_enough(self):
        # The two mixed ways have the right worths of all Lyndon WORDS to 3 letters but not of all WORDS.
        rows = [(row_for(2, whole_marks(2, 2) + (x, (1, 6))), half) for x in ((1, 12), (1, 4))]
        words = lyndon_words(2, 3)
        for word in words:
            self.assertEqual(sum(ratio(share) * ratio(word_worth(row, word)) for row, share in rows),
                             Fraction(1, factorial(len(word))))
        self.gives(plain_order(tuple(rows), 2, 6), mix_order, mix=tuple(rows), many=2)

    def test_high_orders(self):
        self.gives(8, mix_order, mix=self.richardson(2, (1, 2, 3, 4)), many=2)
        self.gives(6, mix_order, mix=self.richardson(3, (1, 2, 3)), many=3)
        self.gives(8, mix_order, mix=self.richardson(4, (1, 2, 3, 4)), many=4)

    def test_one_part(self):
        def sums(*pairs):
            return tuple((((0, pair(Fraction(x))),), pair(Fraction(share))) for x, share in pairs)
        for mix, order in ((sums((1, 1)), None), (sums((2, 1)), 0), (sums((1, 2), (1, -1)), None), (sums((0, "1/2"), (2, "1/2")), 1),
                           (sums((1, 1), (5, 0)), None), (sums((1, 1), (3, 7), (3, -7)), None), (sums((0, 1)), 0),
                           (sums((0, 1), (1, 1), (2, -1)), 0), (sums((0, "1/3"), (2, 1), (3, "-1/3")), 2)):
            self.gives(order, mix_order, mix=mix, many=1)
            self.assertEqual(plain_order(mix, 1, 8), 8 if order is None else order)
        # To power 3: the differences of x (x - 1) (x - 2) (x - 3).
        self.gives(3, mix_order, mix=sums((0, 1), (1, -3), (2, 6), (3, -4), (4, 1)), many=1)

    def test_unfit(self):
        for many in (1, 2, 4):
            self.raises(Unfit, mix_order, mix=((three[:1], half),), many=many)
            self.raises(Unfit, mix_order, mix=(((), one), ((), one)), many=many)
            self.raises(Unfit, mix_order, mix=(((), (BIG, BIG + 1)),), many=many)

    def test_orders_of_rows_that_go_together(self):
        for row in (three, six):
            turned = tuple((1 - part, x) for part, x in row)
            self.assertEqual(order_of(row, 2), order_of(turned, 2))
            self.assertTrue(is_same_with(row, turned, ((0, 1),)))


class OfTheEngine(Case):

    def test_rows_with_equal_marks(self):
        # They differ by nothing below the next power, on a ladder of TREES that tells all of this power apart.
        row, other = row_for(2, marks_of(six, 2, 3)), six
        change = tree_change((1, ((0, ((1, ((0, ()),)),)),)), 2)
        start = (zero,) * len(change[0])
        self.same(row_series(change, row, start, 3), row_series(change, other, start, 3))

    def test_least_rows(self):
        for many in (2, 3, 4):
            self.gives(2, order_of, row=least_row(many, 2), many=many)


if __name__ == "__main__":
    unittest.main()
