import itertools
import unittest

from everychange.asks import (ask_order, ask_turns, free_tells, further_asks, needed_asks, path_asks, round_asks)
from everychange.errors import CanNot
from everychange.lots import lots
from everychange.tables import rounds
from tests.helpers import HALF, ONE, ZERO, Case, ratio
from tests.test_least import disguised
from tests.test_tables import euler, implicit, mid, none, some_sheet, some_table, two

o, half, e = ZERO, HALF, ONE
tried = ((((o, o, o), (half, o, o), (half, o, o)),), (((e, o, o),), ((o, e, o),), ((half, o, half),)))
both = ((((o,),), ((o,),)), (((e,), (e,)),))
# Two stages that solve each other, one that hangs on nothing, one behind the solved ones.
solved = ((((o, e, o, o), (e, o, o, o), (o, o, o, o), (o, half, o, o)),),
          (((o, o, e, o),), ((o, o, o, e),), ((e, o, o, o),), ((o, o, o, o),)))
SETS = (needed_asks, ask_order, ask_turns)


def own_hangs(sheet, rows):
    """The pairs (lot, part) on which rows, one for each part, hang: by the sums over the lots."""
    return {(at, part) for at, lot in enumerate(lots(sheet)) for part, row in enumerate(rows)
            if sum(ratio(row[stage]) for stage in lot)}


def own_of_lot(sheet, at):
    found = {frozenset(own_hangs(sheet, [matrix[stage] for matrix in sheet[0]])) for stage in lots(sheet)[at]}
    assert len(found) == 1
    return found.pop()


def own_needed(sheet, tells):
    """Own reach over the lots."""
    found, newest = set(), set().union(*(own_hangs(sheet, sheet[1][number]) for number in tells))
    while newest - found:
        found |= newest
        newest = set().union(*(own_of_lot(sheet, lot) for lot, part in found))
    return found


def sheets():
    yield tried
    yield both
    yield solved
    yield (((),), (((),), ((),)))
    for seed in range(20):
        sheet = some_sheet(seed, 1 + seed % 3, seed % 6, 1 + seed % 4, explicit=seed % 4 > 0)
        yield disguised(seed, sheet) if seed % 3 == 0 and seed % 6 else sheet


def some_sets(sheet):
    many = len(sheet[1])
    return [own for size in range(many + 1) for own in itertools.combinations(range(many), size)]


class Asks(Case):

    def test_the_examples(self):
        self.gives(((0, 0), (1, 0)), needed_asks, sheet=tried, tells=(0, 1, 2))
        self.gives(((1, 0),), further_asks, sheet=tried, tells=(2,), known=(0,))
        self.gives((0, 1, 2), free_tells, sheet=tried, known=(1,))
        self.gives([1, 1, 0], path_asks, sheet=tried, path=((0,), (2,), (1,)))
        self.gives([(0, 0), (1, 0)], ask_order, sheet=tried, tells=(2,))
        self.gives([((0, 0),), ((1, 0),)], ask_turns, sheet=tried, tells=(2,))
        self.gives([((0, 0), (0, 1))], ask_turns, sheet=both, tells=(0,))
        self.gives([2, 1, 1], round_asks, table=((((o, o), (half, half)),), ((half, half),)), n=3)

    def test_needed_asks(self):
        for sheet in sheets():
            for tells in some_sets(sheet):
                self.gives(tuple(sorted(own_needed(sheet, tells))), needed_asks, sheet=sheet, tells=tells)

    def test_further_and_free(self):
        for sheet in sheets():
            for tells, known in zip(some_sets(sheet), reversed(some_sets(sheet))):
                before = own_needed(sheet, known)
                self.gives(tuple(sorted(own_needed(sheet, tells) - before)), further_asks, sheet=sheet, tells=tells, known=known)
                free = tuple(number for number in range(len(sheet[1])) if own_needed(sheet, (number,)) <= before)
                self.gives(free, free_tells, sheet=sheet, known=known)
                self.assertTrue(set(known) <= set(free))

    def test_empty_sets(self):
        self.gives((), needed_asks, sheet=tried, tells=())
        self.gives(((0, 0),), further_asks, sheet=tried, tells=(0,), known=())
        self.gives((), further_asks, sheet=tried, tells=(), known=(0,))
        self.gives((), free_tells, sheet=tried, known=())
        # A tell that weighs nothing, and one whose weights cancel out over a lot, need no ASKS.
        self.gives((3,), free_tells, sheet=solved, known=())
        cancel = (tried[0], (((o, e, (-1, 1)),),))
        self.gives((), needed_asks, sheet=cancel, tells=(0,))
        self.gives((0,), free_tells, sheet=cancel, known=())
        self.gives([], path_asks, sheet=tried, path=())
        self.gives([0, 2, 0], path_asks, sheet=tried, path=((), (1,), ()))
        self.gives([], ask_order, sheet=tried, tells=())
        self.gives([], ask_turns, sheet=tried, tells=())

    def test_paths(self):
        for sheet in sheets():
            every = some_sets(sheet)
            for path in (every, every[::-1], every[1::2]):
                known, expected = set(), []
                for tells in path:
                    expected.append(len(own_needed(sheet, tells) - known))
                    known |= own_needed(sheet, tells)
                self.gives(expected, path_asks, sheet=sheet, path=tuple(path))

    def test_round_asks(self):
        for table in (euler, mid, implicit, two, none, some_table(3, 2, 3, explicit=True), ((((o, o), (half, half)),), ((half, half),))):
            for n in range(7):
                made, known, expected = rounds(table, n), set(), []
                for number in range(n):
                    needed = own_needed(made, (number,))
                    expected.append(len(needed - known))
                    known |= needed
                self.gives(expected, round_asks, table=table, n=n)
        # What stands at the end of a round is asked again as the next one begins.
        self.gives([2, 2], round_asks, table=mid, n=2)
        self.gives([], round_asks, table=mid, n=0)

    def test_orders_and_turns(self):
        seen = set()
        for sheet in sheets():
            for tells in some_sets(sheet):
                left, order = own_needed(sheet, tells), []
                while True:
                    can = sorted(ask for ask in left if own_of_lot(sheet, ask[0]) <= set(order))
                    if not can:
                        break
                    order.append(can[0])
                    left.remove(can[0])
                seen.add(not left)
                if left:
                    self.raises(CanNot, ask_order, sheet=sheet, tells=tells)
                    self.raises(CanNot, ask_turns, sheet=sheet, tells=tells)
                    continue
                self.gives(order, ask_order, sheet=sheet, tells=tells)
                turns = ask_turns(sheet, tells)
                self.gives(turns, ask_turns, sheet=sheet, tells=tells)
                done = set()
                for turn in turns:
                    can = {ask for ask in set(order) - done if own_of_lot(sheet, ask[0]) <= done}
                    self.same(turn, tuple(sorted(can)))
                    done |= can
                self.assertEqual(done, set(order))
        self.assertEqual(seen, {True, False})

    def test_what_is_solved_is_in_the_way_only_where_it_is_needed(self):
        self.gives([(1, 0)], ask_order, sheet=solved, tells=(0,))
        self.gives([], ask_turns, sheet=solved, tells=(3,))
        for tells in ((1,), (2,), (0, 1), (0, 1, 2, 3)):
            self.raises(CanNot, ask_order, sheet=solved, tells=tells)
            self.raises(CanNot, ask_turns, sheet=solved, tells=tells)

    def test_least_one_first(self):
        # Lot 2 hangs on lot 1 alone, lot 0 on lot 2: the order goes by what is left, not by the numbers.
        sheet = ((((o, o, e), (o, o, o), (o, e, o)), ((o, half, o), (o, o, o), (o, o, o))), (((e, o, o), (o, e, e)),))
        self.gives(((0, 0), (1, 0), (1, 1), (2, 0), (2, 1)), needed_asks, sheet=sheet, tells=(0,))
        self.gives([(1, 0), (1, 1), (2, 0), (0, 0), (2, 1)], ask_order, sheet=sheet, tells=(0,))
        self.gives([((1, 0), (1, 1)), ((2, 0), (2, 1)), ((0, 0),)], ask_turns, sheet=sheet, tells=(0,))

    def test_no_place(self):
        for function in SETS:
            self.no_place(3, function, sheet=tried, tells=(0, 3, 4))
            self.no_place(-1, function, sheet=tried, tells=(-1, 3))
            # Ahead of CanNot.
            self.no_place(4, function, sheet=solved, tells=(2, 4))
        self.no_place(5, further_asks, sheet=tried, tells=(0, 5), known=(7,))
        self.no_place(7, further_asks, sheet=tried, tells=(0,), known=(1, 7, 8))
        self.no_place(7, further_asks, sheet=tried, tells=(), known=(7,))
        self.no_place(3, free_tells, sheet=tried, known=(3,))
        self.no_place(3, path_asks, sheet=tried, path=((0,), (), (1, 3), (9,)))
        self.no_place(0, needed_asks, sheet=(tried[0], ()), tells=(0,))


if __name__ == "__main__":
    unittest.main()
