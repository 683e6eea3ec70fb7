import itertools
import random
import unittest
from fractions import Fraction
from math import factorial

from everychange.changes import is_change
from everychange.engine import row_series, unlike_at
from everychange.flowrows import is_same, normal_row, row_joined, row_turned
from everychange.parting import (cell_push, flow_at, flow_table, is_parting_run, is_push, one_step, parting_run,
                                 parting_word, push_change, spring_push, word_worth)
from everychange.polys import is_powersum, poly_value
from tests.helpers import HALF, ONE, ZERO, Case, pair, ratio
from tests.test_flowrows import some_row

i, o, m = ONE, ZERO, (-1, 1)
forth, back = ((0, i), (1, i)), ((1, i), (0, i))
BIG = 10 ** 30
three_push = (((o, i, (2, 1)), (o, o, HALF), (o, o, o)), ((o, o, o), (m, o, o), (i, HALF, o)))


def plain_worth(row, word):
    """The worth by all cuts of the WORD."""
    total = Fraction(0)
    for cuts in itertools.combinations_with_replacement(range(len(word) + 1), max(len(row) - 1, 0)):
        ends = (0,) + cuts + (len(word),)
        product = Fraction(1)
        if not row and word:
            return Fraction(0)
        for at, (part, x) in enumerate(row):
            piece = word[ends[at]:ends[at + 1]]
            product *= ratio(x) ** len(piece) / factorial(len(piece)) if set(piece) <= {part} else 0
        total += product
    return total


def plain_parting_word(row, other, letters, most):
    for length in range(1, most + 1):
        for word in itertools.product(range(letters), repeat=length):
            if plain_worth(row, word) != plain_worth(other, word):
                return word
    return None


def pairs_of_rows(many=60):
    """Pairs of ROWS of 2 to 3 parts, some of them the same, some that part late."""
    for seed in range(many):
        source = random.Random(seed)
        parts = 2 + seed % 2
        row, other = some_row(seed, parts, seed % 6), some_row(seed + 300, parts, (seed // 3) % 5)
        if seed % 3 == 0:
            other = row_turned(other) + row + other
        if seed % 7 == 0:
            other = row[:2] + ((0, i), (0, m)) + row[2:]
        if seed % 11 == 0:
            a, b = ((0, source.choice((i, HALF))),), ((1, source.choice((i, m))),)
            row, other = a + b + row_turned(a) + row_turned(b) + a, a + a + b + row_turned(a) + row_turned(b)
        if len(normal_row(row)) + len(normal_row(other)) <= 14:
            yield row, other, parts


class Worths(Case):

    def test_the_example(self):
        for word, worth in (((), i), ((0, 1), i), ((1, 0), o), ((0, 0, 1), HALF)):
            self.gives(worth, word_worth, row=forth, word=word)

    def test_beside_all_cuts(self):
        for seed in range(30):
            row = some_row(seed, 3, seed % 5)
            for length in range(4):
                for word in itertools.product(range(3), repeat=length):
                    self.same(word_worth(row, word), pair(plain_worth(row, word)))
        self.gives(pair(plain_worth(back + forth, (1, 0, 0, 1, 1))), word_worth, row=back + forth, word=(1, 0, 0, 1, 1))

    def test_edges(self):
        self.gives(i, word_worth, row=(), word=())
        self.gives(o, word_worth, row=(), word=(0,))
        self.gives(i, word_worth, row=((5, o),), word=())
        self.gives(o, word_worth, row=((5, o),), word=(5,))
        self.gives(o, word_worth, row=forth, word=(7,))
        self.gives((1, factorial(30)), word_worth, row=((0, i),), word=(0,) * 30)
        self.gives(pair(Fraction(BIG ** 3, 6)), word_worth, row=((99, (BIG, 1)),), word=(99,) * 3)
        self.gives(pair(Fraction(4 ** 5, factorial(5))), word_worth, row=((0, i),) * 4, word=(0,) * 5)

    def test_worths_are_those_of_the_normal_row(self):
        for seed in range(20):
            row = some_row(seed, 2, 8)
            for word in itertools.product(range(2), repeat=4):
                self.same(word_worth(row, word), word_worth(normal_row(row), word))


class Parting(Case):

    def test_parting_word(self):
        self.gives((0, 1), parting_word, row=forth, other=back)
        self.gives(None, parting_word, row=(), other=())
        self.gives(None, parting_word, row=forth, other=((0, HALF), (2, o), (0, HALF), (1, i)))
        self.gives((0,), parting_word, row=forth, other=())
        self.gives((3,), parting_word, row=forth, other=forth + ((3, i), (7, HALF)))
        self.gives((0, 1), parting_word, row=forth + ((2, i),), other=back + ((2, i),))
        self.gives((1, 98), parting_word, row=((98, i), (1, i)), other=((1, i), (98, i)))

    def test_beside_all_words(self):
        for row, other, parts in pairs_of_rows():
            word = parting_word(row, other)
            self.gives(word, parting_word, row=row, other=other)
            self.assertEqual(word is None, is_same(row, other))
            if word is not None and len(word) <= 4:
                self.assertEqual(word, plain_parting_word(row, other, parts, len(word)))

    def test_late_words(self):
        commutator = forth + ((0, m), (1, m))
        deeper = commutator + ((0, i),) + row_turned(commutator) + ((0, m),)
        self.gives((0, 0, 1), parting_word, row=deeper, other=())
        self.gives((0, 0, 1), parting_word, row=commutator + ((0, i),), other=((0, i),) + commutator)
        other = commutator + ((2, i),) + row_turned(commutator) + ((2, m),)
        self.gives((0, 1, 2), parting_word, row=other, other=())
        # 14 pairs: the commutators by 0 and by 1 of one commutator, with its own letters at the ends.
        row = normal_row(deeper + ((1, i),) + row_turned(deeper))
        self.assertGreater(len(row), 14)
        self.same(len(parting_word(deeper + ((1, HALF),), ((1, HALF),) + deeper)), 4)

    def test_the_engine_tells_the_power(self):
        # On the CHANGE of cell_push ROWS part at a power that is at least as great.
        for row, other, parts in pairs_of_rows(30):
            word = parting_word(row, other)
            change = push_change(cell_push(parts))
            powers = [unlike_at(row_series(change, row, start, 6), row_series(change, other, start, 6))
                      for start in ((i, o), (o, i))]
            if word is not None:
                self.assertTrue(all(power is None or power >= len(word) for power in powers))
            else:
                self.assertEqual(powers, [None, None])


class Pushes(Case):

    def test_is_push(self):
        self.is_one(is_push, [cell_push(1), cell_push(4), cell_push(100), spring_push(), three_push, (((o,),),),
                              (((o,) * 20,) * 20,), (((i, m), (i, m)),)])
        self.is_none(is_push, [None, (), ((),), [], "", 7, (((i,),),), (((o, i), (i, o)),), (((i, o), (o, o)),),
                               (((o, i), (o, o)), ((o,),)), (((o, i),),), (((o,), (o,)),), ((((0, 2),),),),
                               cell_push(2) + ((),), cell_push(2) + (((o, i), (o, i)),), ((o, o), (o, o)),
                               (((o, i, o), (o, o, i), (i, o, o)),), (((HALF, HALF), (HALF, HALF)),)])
        self.only_unbent(is_push, spring_push())
        # The greatest size: only the 16th power is 0, or none is.
        shift = tuple(tuple(i if k == at + 1 else o for k in range(16)) for at in range(16))
        self.is_one(is_push, [(shift,), (shift, tuple(zip(*shift)))])
        self.is_none(is_push, [(shift[:15] + ((i,) + (o,) * 15,),)])

    def test_cell_push(self):
        self.gives((((m, i), (m, i)),), cell_push, many=1)
        self.gives((((m, i), (m, i)), (((-2, 1), i), ((-4, 1), (2, 1))), (((-3, 1), i), ((-9, 1), (3, 1)))),
                   cell_push, many=3)
        for v, matrix in enumerate(cell_push(5)):
            for x, y in ((1, 0), (0, 1), (3, 7)):
                z = y - (v + 1) * x
                self.assertEqual([sum(ratio(a) * b for a, b in zip(line, (x, y))) for line in matrix], [z, (v + 1) * z])

    def test_spring_push(self):
        self.gives((((o, i), (o, o)), ((o, o), (i, o))), spring_push)

    def test_push_change(self):
        self.gives((((((0, 1), i),), ()), ((), (((1, 0), i),))), push_change, push=spring_push())
        self.gives(((((((0, 1), i), ((1, 0), m))), (((0, 1), i), ((1, 0), m))),), push_change, push=cell_push(1))
        self.gives(((((),),))[0:1], push_change, push=(((o,),),))
        self.assertTrue(is_change(push_change(three_push)))
        self.gives(((((0, 0, 1), (2, 1)), ((0, 1, 0), i)), (((0, 0, 1), HALF),), ()), lambda push: push_change(push)[0],
                   push=three_push)


class Flows(Case):

    def test_the_examples(self):
        self.gives((((1, 1), (-3, 1), (1, 1)), ((0, 1), (2, 1), (-1, 1))), lambda row, push: flow_table(row, push)[0],
                   row=forth, push=cell_push(2))
        self.gives((2, 1), one_step, row=forth, other=back)
        self.gives(((1, 1), (2, 1)), flow_at, row=forth, push=spring_push(), h=(2, 1), state=(i, o))
        self.gives(((5, 1), (2, 1)), flow_at, row=back, push=spring_push(), h=(2, 1), state=(i, o))

    def test_edges(self):
        self.gives((((i,), ()), ((), (i,))), flow_table, row=(), push=spring_push())
        self.gives((((i,),),), flow_table, row=((0, i),), push=(((o,),),))
        self.gives((HALF, i), flow_at, row=(), push=spring_push(), h=(BIG, 1), state=(HALF, i))
        self.gives((HALF, i), flow_at, row=forth, push=spring_push(), h=o, state=(HALF, i))
        self.gives((((i,), (o, i)), ((), (i,))), flow_table, row=((0, i), (1, o)), push=spring_push())
        self.gives(((BIG * BIG + 1, 1), i), flow_at, row=((0, (BIG, 1)),), push=spring_push(), h=(BIG, 1), state=(i, i))

    def test_beside_the_engine(self):
        for seed in range(30):
            push = (spring_push(), cell_push(2), three_push)[seed % 3]
            row = some_row(seed, 2, seed % 7)
            table = flow_table(row, push)
            self.gives(table, flow_table, row=row, push=push)
            self.assertTrue(all(is_powersum(poly) for line in table for poly in line))
            for cell in range(len(push[0])):
                start = tuple(i if k == cell else o for k in range(len(push[0])))
                series = row_series(push_change(push), row, start, 12)
                column = tuple(line[cell] + (o,) * (13 - len(line[cell])) for line in table)
                self.same(column, series)

    def test_flow_at_beside_flow_table(self):
        for seed in range(30):
            push = (spring_push(), cell_push(2), three_push)[seed % 3]
            row, h = some_row(seed, 2, seed % 7), ((1, 3), (-2, 1), o)[seed % 3 - 1]
            state = tuple(pair(Fraction(k + seed, k + 2)) for k in range(len(push[0])))
            led = tuple(pair(sum(ratio(poly_value(poly, h)) * ratio(x) for poly, x in zip(line, state)))
                        for line in flow_table(row, push))
            self.gives(led, flow_at, row=row, push=push, h=h, state=state)

    def test_a_push_of_the_greatest_size(self):
        shift = tuple(tuple(i if k == at + 1 else o for k in range(16)) for at in range(16))
        table = flow_table(((0, i),), (shift,))
        self.same(table[0][15], (o,) * 15 + ((1, factorial(15)),))
        self.same(flow_table(((0, i),) * 40, (shift,)), flow_table(((0, (40, 1)),), (shift,)))


class OneStep(Case):

    def test_one_step(self):
        self.gives(i, one_step, row=(), other=())
        self.gives(i, one_step, row=forth, other=forth + ((1, o),))
        self.gives((4, 1), one_step, row=((0, HALF), (1, (-3, 1))), other=())
        self.gives((2, BIG - 1), one_step, row=((1, (1 - BIG, 1)),), other=((0, (BIG, 1)),))
        self.gives((6, 17), one_step, row=((0, (-2, 3)), (1, i)), other=((0, (5, 1)), (1, i)))

    def test_its_own_words(self):
        for row, other, parts in pairs_of_rows(80):
            if parts == 2:
                rest = normal_row(row_joined(row, row_turned(other)))
                step = pair(2 / min(abs(ratio(x)) for part, x in rest)) if rest else i
                self.gives(step, one_step, row=row, other=other)
                apart = [flow_at(row, spring_push(), step, state) != flow_at(other, spring_push(), step, state)
                         for state in ((i, o), (o, i))]
                self.assertEqual(any(apart), not is_same(row, other))


class Runs(Case):

    def test_parting_run(self):
        for row, other, parts in pairs_of_rows():
            run = parting_run(row, other)
            self.gives(run, parting_run, row=row, other=other)
            self.assertEqual(run is None, is_same(row, other))
            if run is not None:
                push, state, h = run
                self.assertTrue(is_push(push))
                self.assertTrue(all(part < len(push) for part, x in row + other))
                # Its own words, by the engine: exact, for the CHANGE leads by polynomials in the step.
                change = push_change(push)
                ends = [tuple(pair(sum(ratio(x) * ratio(h) ** power for power, x in enumerate(series)))
                              for series in row_series(change, own, state, 20)) for own in (row, other)]
                self.assertNotEqual(ends[0], ends[1])
                self.is_one(is_parting_run, [run], row=row, other=other)
        self.gives(None, parting_run, row=(), other=())
        # On cell_push some of these lead to the same at the step 1 from (1, 0), some from both (1, 0) and (0, 1).
        for row in (((0, (2, 1)), (1, i), (0, (-2, 1))), ((0, i), (1, i), (0, (-1, 2)), (1, (-1, 2)))):
            self.assertEqual(flow_at(row, cell_push(2), i, (i, o)), (i, o))
            self.is_one(is_parting_run, [parting_run(row, ()), parting_run((), row)], row=row, other=())
        self.assertEqual(len(parting_run(((98, i), (1, i)), ((1, i), (98, i)))[0]), 99)

    def test_is_parting_run(self):
        run = (spring_push(), (i, o), (2, 1))
        self.only_unbent(is_parting_run, run, row=forth, other=back)
        self.is_one(is_parting_run, [run, (cell_push(2), (i, o), i), (cell_push(7), (i, o), (-1, BIG)),
                                     (spring_push() + spring_push(), (i, HALF), (2, 1))], row=forth, other=back)
        self.is_none(is_parting_run, [None, (), run[:2], run + (i,), (cell_push(1), (i, o), i), (spring_push(), (i, o), o),
                                      (spring_push(), (o, o), i), (spring_push(), (i,), i), (spring_push(), (i, o, o), i),
                                      ((((i, o), (o, o)),) * 2, (i, o), i), (((), ()), (), i),
                                      ((((o, i), (o, o)),) * 2, (i, i), i)], row=forth, other=back)
        self.is_none(is_parting_run, [run, None, (cell_push(2), (i, o), i)], row=forth, other=forth)
        # A matrix for each part of both, also for those that do not count.
        self.is_none(is_parting_run, [run], row=forth + ((2, i), (2, m)), other=back)
        self.is_one(is_parting_run, [(spring_push() + (((o, o), (o, o)),), (i, o), (2, 1))], row=forth + ((2, i), (2, m)),
                    other=back)
        self.is_none(is_parting_run, [(cell_push(1), (i, o), i)], row=(), other=())


if __name__ == "__main__":
    unittest.main()
