import random
import unittest

from everychange.flowpower import cell_power, is_power_paper, part_power, power_paper, ring_of
from everychange.flowrows import is_same, normal_row, row_joined, row_turned
from everychange.parting import cell_push, flow_table, parting_word, word_worth
from tests.helpers import HALF, ONE, ZERO, Case
from tests.test_flowrows import some_row
from tests.test_parting import back, forth, pairs_of_rows

i, o, m = ONE, ZERO, (-1, 1)


def power_of_tables(row, other, parts):
    """The least power at which the two flow tables differ."""
    found = []
    for line, others in zip(flow_table(row, cell_push(parts)), flow_table(other, cell_push(parts))):
        for poly, second in zip(line, others):
            length = max(len(poly), len(second))
            poly, second = poly + (o,) * (length - len(poly)), second + (o,) * (length - len(second))
            found.extend(power for power in range(length) if poly[power] != second[power])
    return min(found, default=None)


class Rings(Case):

    def looks_right(self, row):
        through, ring = ring_of(row)
        self.gives((through, ring), ring_of, row=row)
        self.same(normal_row(through), through)
        self.same(normal_row(ring), ring)
        self.assertTrue(is_same(row, through + ring + row_turned(through)))
        self.assertTrue(len(ring) <= 1 or ring[0][0] != ring[-1][0])
        return ring

    def test_ring_of(self):
        for seed in range(80):
            row, outside = some_row(seed, 2 + seed % 2, seed % 7), some_row(seed + 100, 2, seed % 4)
            self.looks_right(row)
            ring = self.looks_right(outside + row + row_turned(outside))
            # Seen through another ROW the ring has as many pairs.
            self.assertEqual(len(ring), len(ring_of(row)[1]))

    def test_edges(self):
        self.gives(((), ()), ring_of, row=())
        self.gives(((), ()), ring_of, row=((0, i), (1, o), (0, m)))
        self.gives(((), ((3, HALF),)), ring_of, row=((3, HALF),))
        self.assertEqual(self.looks_right(forth), forth)
        self.assertEqual(self.looks_right(((0, i), (1, HALF), (0, m))), ((1, HALF),))
        self.assertEqual(len(self.looks_right(((0, i), (1, HALF), (0, i)))), 2)
        self.assertEqual(self.looks_right(((0, i), (1, i), (2, (7, 2)), (1, m), (0, m))), ((2, (7, 2)),))


class Powers(Case):

    def test_the_examples(self):
        self.gives(2, part_power, row=forth, other=back)
        self.gives(2, cell_power, row=forth, other=back)
        self.gives(True, is_power_paper, row=forth, other=back, thing=(2, (1, 0)))
        self.gives(None, part_power, row=forth, other=forth + ((1, o),))

    def test_beside_words_and_tables(self):
        for row, other, parts in pairs_of_rows():
            word = parting_word(row, other)
            power = part_power(row, other)
            self.gives(None if word is None else len(word), part_power, row=row, other=other)
            self.gives(power_of_tables(row, other, parts), cell_power, row=row, other=other)
            ring = ring_of(row_joined(row, row_turned(other)))[1]
            if power is not None:
                self.assertTrue(1 <= power <= cell_power(row, other) <= max(1, len(ring) // 2))

    def test_none_exactly_if_they_are_the_same(self):
        for function in (part_power, cell_power, power_paper):
            self.gives(None, function, row=(), other=())
            self.gives(None, function, row=forth + ((0, o),), other=forth)
            self.gives(None, function, row=((5, HALF), (5, HALF)), other=((5, i),))
        # A ring of one pair: the power 1, on cell_push too.
        self.gives(1, part_power, row=((1, i), (0, i), (1, m)), other=())
        self.gives(1, cell_power, row=((1, i), (0, i), (1, m)), other=())
        self.gives(1, cell_power, row=((99, i),), other=((98, i),))
        self.gives(1, part_power, row=((99, i),), other=((98, i),))
        commutator = forth + ((0, m), (1, m))
        deeper = commutator + ((0, i),) + row_turned(commutator) + ((0, m),)
        self.gives(3, part_power, row=deeper, other=())
        self.gives(4, part_power, row=deeper + ((1, HALF),), other=((1, HALF),) + deeper)


class Papers(Case):

    def test_power_paper(self):
        for row, other, parts in pairs_of_rows():
            paper = power_paper(row, other)
            self.gives(paper, power_paper, row=row, other=other)
            self.assertEqual(paper is None, is_same(row, other))
            if paper is not None:
                power, word = paper
                self.assertEqual(power, part_power(row, other))
                self.assertEqual(len(word), power)
                self.assertNotEqual(word_worth(row, word), word_worth(other, word))
                self.is_one(is_power_paper, [paper], row=row, other=other)
                self.is_none(is_power_paper, [(power + 1, word), (power - 1, word), (power, word + (0,)), (power, word[1:]),
                                              (power, (9,) * power), (power + 1, word + word[:1])], row=row, other=other)

    def test_is_power_paper(self):
        self.only_unbent(is_power_paper, (2, (0, 1)), row=forth, other=back)
        self.is_one(is_power_paper, [(2, (0, 1)), (2, (1, 0))], row=forth, other=back)
        # At three letters they part, too, but not at the least power.
        self.assertNotEqual(word_worth(forth, (0, 0, 1)), word_worth(back, (0, 0, 1)))
        self.is_none(is_power_paper, [None, (), (2,), (2, (0, 0)), (2, (0, 1), ()), (3, (0, 0, 1)), (2, (0, 2)), (2, (-1, 0)),
                                      (1, (0,)), (0, ()), (-1, ()), (10 ** 9, ()), ((0, 1), 2)], row=forth, other=back)
        self.is_none(is_power_paper, [None, (0, ()), (1, (0,)), (2, (0, 1))], row=forth, other=forth)
        self.is_none(is_power_paper, [(True, (0,)), (1, (False,))], row=((0, i),), other=())
        self.is_one(is_power_paper, [(1, (0,))], row=((0, i),), other=())

    def test_fourteen_pairs(self):
        source = random.Random(5)
        for parts in (2, 3, 4):
            row = normal_row(tuple((at % parts, (source.choice((-2, -1, 1, 2)), 1)) for at in range(14)))
            paper = power_paper(row, ())
            self.is_one(is_power_paper, [paper], row=row, other=())
            self.is_one(is_power_paper, [power_paper(row[:7], row[7:])], row=row[:7], other=row[7:])


if __name__ == "__main__":
    unittest.main()
