import copy
import inspect
import random
import unittest
from fractions import Fraction

from everychange.alike import is_alike
from everychange.asks import needed_asks
from everychange.board import Board
from everychange.damped import never_grows
from everychange.errors import CanNot, NoPlace, NothingDone, Unfit
from everychange.kept import keeps
from everychange.least import least_sheet
from everychange.leastpower import order_to, parting_power
from everychange.lots import lot_sheet, lots
from everychange.tables import behind, is_explicit, is_sheet, put_in_order
from tests.helpers import HALF, ONE, ZERO, Case, empty, half_listed, kind_of, listed, pair, ratio
from tests.test_tables import euler, implicit, mid, some_table, two

zero, half, unit, less = ZERO, HALF, ONE, (-1, 1)
METHODS = """sheet(), tickets(), table(ticket), given(ticket), add_stage(rows), hang(part, stage, other, x), drop_stage(stage),
    add_tell(weights), weigh(ticket, part, stage, x), drop_tell(ticket), go_behind(table), scale(x), make(word), undo(), stays(ticket),
    parted(ticket), alike(ticket, other), order(ticket, most), keeps(ticket, degree, way), asks(), grows(ticket)"""


def seen(board):
    """All that a Board tells of itself."""
    return (board.sheet(), board.tickets(), [board.table(ticket) for ticket in board.tickets()],
            [board.given(ticket) for ticket in board.tickets()])


def written(sheet):
    """A Board with this SHEET."""
    board = Board(len(sheet[0]))
    stages = len(sheet[0][0])
    for at in range(stages):
        board.add_stage(tuple((zero,) * at for _ in sheet[0]))
    for part, matrix in enumerate(sheet[0]):
        for i in range(stages):
            for k in range(stages):
                board.hang(part, i, k, matrix[i][k])
    for tell in sheet[1]:
        board.add_tell(tell)
    return board


class Reckoned:
    """A Board by own reckoning: lists of numbers, copied ahead of each deed."""

    def __init__(self, many):
        self.now = {"matrices": [[] for _ in range(many)], "tells": [], "tickets": [], "given": [], "next": 0}
        self.past = []

    def deed(self):
        self.past.append(copy.deepcopy(self.now))
        return self.now

    def add_stage(self, rows):
        now = self.deed()
        for matrix, row in zip(now["matrices"], rows):
            for line in matrix:
                line.append(Fraction(0))
            matrix.append([ratio(x) for x in row] + [Fraction(0)])
        for tell in now["tells"]:
            for line in tell:
                line.append(Fraction(0))

    def hang(self, part, stage, other, x):
        self.deed()["matrices"][part][stage][other] = ratio(x)

    def drop_stage(self, stage):
        now = self.deed()
        for matrix in now["matrices"]:
            del matrix[stage]
            for line in matrix:
                del line[stage]
        for tell in now["tells"]:
            for line in tell:
                del line[stage]

    def add_tell(self, weights):
        now = self.deed()
        now["tells"].append([[ratio(x) for x in row] for row in weights])
        now["tickets"].append(now["next"])
        now["next"] += 1
        now["given"].append(copy.deepcopy((now["matrices"], now["tells"][-1])))

    def weigh(self, ticket, part, stage, x):
        now = self.deed()
        now["tells"][now["tickets"].index(ticket)][part][stage] = ratio(x)

    def drop_tell(self, ticket):
        now = self.deed()
        at = now["tickets"].index(ticket)
        for name in ("tells", "tickets", "given"):
            del now[name][at]

    def go_behind(self, table):
        now = self.deed()
        for part, (matrix, weights) in enumerate(zip(*table)):
            ahead = [ratio(x) for x in weights]
            own = now["matrices"][part]
            now["matrices"][part] = [[ratio(x) for x in row] + [Fraction(0)] * len(own) for row in matrix] + [ahead + row for row in own]
            for tell in now["tells"]:
                tell[part] = ahead + tell[part]

    def scale(self, x):
        now = self.deed()
        for rows in now["matrices"] + now["tells"]:
            rows[:] = [[ratio(x) * y for y in row] for row in rows]

    def undo(self):
        self.now = self.past.pop()

    def seen(self):
        def pairs(rows):
            return tuple(tuple(pair(x) for x in row) for row in rows)
        now = self.now
        matrices, tells = tuple(pairs(matrix) for matrix in now["matrices"]), tuple(pairs(tell) for tell in now["tells"])
        given = [(tuple(pairs(matrix) for matrix in own), pairs(tell)) for own, tell in now["given"]]
        return ((matrices, tells), list(now["tickets"]), [(matrices, tell) for tell in tells], given)


class Boards(Case):

    def test_the_examples(self):
        b = Board(1)
        self.same((b.add_stage(((),)), b.add_stage(((half,),)), b.add_tell(((zero, unit),)), b.table(0) == mid), (0, 1, 0, True))
        self.same((b.order(0, 5), b.grows(0), b.keeps(0, 2, "each"), b.weigh(0, 0, 0, half), b.weigh(0, 0, 1, half), b.stays(0), b.parted(0)),
                  (2, True, False, None, None, False, 2))
        self.same((b.undo(), b.undo(), b.stays(0), b.add_stage(((zero, (0, 1)),)), b.make("least"), len(b.sheet()[0][0]), b.stays(0)),
                  (None, None, True, 2, None, 2, True))
        with self.assertRaises(CanNot):
            b.drop_stage(0)

    def test_methods(self):
        import ast
        calls = ast.parse("[" + " ".join(METHODS.split()) + "]").body[0].value.elts
        for call in calls:
            method = vars(Board)[call.func.id]
            self.assertEqual(list(inspect.signature(method).parameters), ["self"] + [argument.id for argument in call.args])
        self.assertEqual(list(inspect.signature(Board).parameters), ["many"])
        self.assertEqual(Board.__bases__, (object,))

    def test_new_ones(self):
        for many in (1, 2, 3, 4):
            for board in (Board(many), Board(many=many)):
                self.same(board.sheet(), (((),) * many, ()))
                self.same(board.tickets(), [])
                self.same(board.asks(), ())
                with self.assertRaises(NothingDone):
                    board.undo()

    def draws(self, seed, board, many):
        """A deed that is let, as (name, arguments)."""
        source = random.Random(seed)
        (matrices, tells), tickets = board.sheet(), board.tickets()
        stages = len(matrices[0])

        def x():
            return pair(Fraction(source.randint(-2, 2), source.randint(1, 3)))

        def rows():
            return tuple(tuple(x() for _ in range(stages)) for _ in range(many))
        part, stage, other = source.randrange(many), source.randrange(stages or 1), source.randrange(stages or 1)
        deeds = [("scale", (x(),))]
        if stages < 5:
            deeds += [("add_stage", (rows(),))] * 3
        if stages < 4:
            deeds += [("go_behind", (some_table(seed, many, source.randint(0, 2)),))]
        if len(tells) < 4:
            deeds += [("add_tell", (rows(),))] * 2
        if stages:
            deeds += [("hang", (part, stage, other, x()))] * 2
            hung = [row[stage] for tell in tells for row in tell] + [row[stage] for matrix in matrices for at, row in enumerate(matrix) if at != stage]
            if not any(y[0] for y in hung):
                deeds += [("drop_stage", (stage,))] * 9
        if tickets:
            deeds += [("drop_tell", (source.choice(tickets),))]
            if stages:
                deeds += [("weigh", (source.choice(tickets), part, stage, x()))] * 2
        return source.choice(deeds)

    def test_each_deed_beside_own_reckoning(self):
        done = {}
        for seed in range(60):
            many = 1 + seed % 3
            board, own = Board(many), Reckoned(many)
            for step in range(40):
                if own.past and (seed + step) % 7 == 0:
                    self.same(board.undo(), None)
                    own.undo()
                    done["undo"] = done.get("undo", 0) + 1
                else:
                    name, arguments = self.draws(seed * 100 + step, board, many)
                    self.does(board, own, name, arguments, step)
                    done[name] = done.get(name, 0) + 1
                self.same(seen(board), own.seen())
            # To the start.
            while own.past:
                board.undo()
                own.undo()
                self.same(seen(board), own.seen())
            self.same(board.sheet(), (((),) * many, ()))
            with self.assertRaises(NothingDone):
                board.undo()
        self.assertGreater(min(done.values()), 10)
        self.assertEqual(len(done), 9)

    def does(self, board, own, name, arguments, step):
        """A deed, with lists or tuples, by place or by name; lists that are passed in are changed later."""
        stages, ticket = len(own.now["matrices"][0]), own.now["next"]
        given = [(lambda value: value, listed, half_listed)[step % 3](value) for value in arguments]
        before = copy.deepcopy(given)
        names = list(inspect.signature(getattr(Board, name)).parameters)[1:]
        if step % 2:
            found = getattr(board, name)(**dict(zip(names, given)))
        else:
            found = getattr(board, name)(*given)
        self.assertEqual(kind_of(given), kind_of(before))
        self.same(found, {"add_stage": stages, "add_tell": ticket}.get(name))
        getattr(own, name)(*arguments)
        for value in given:
            empty(value)

    def test_asked_beside_functions(self):
        for seed in range(30):
            many = 1 + seed % 2
            board = Board(many)
            for step in range(14):
                name, arguments = self.draws(seed * 50 + step, board, many)
                getattr(board, name)(*arguments)
            before = seen(board)
            self.same(board.asks(), needed_asks(board.sheet(), tuple(range(len(board.sheet()[1])))))
            for ticket in board.tickets():
                table, given = board.table(ticket), board.given(ticket)
                self.same(board.stays(ticket), is_alike(table, given))
                self.same(board.parted(ticket=ticket), parting_power(table, given))
                self.same(board.order(ticket, 4), order_to(table, 4))
                self.same(board.order(ticket=ticket, most=2), order_to(table, 2))
                for other in board.tickets():
                    self.same(board.alike(ticket, other=other), is_alike(table, board.table(other)))
                for degree in (1, 2, 3):
                    self.same(board.keeps(ticket, degree, way="each"), keeps(table, degree, "each"))
                    self.same(board.keeps(ticket, degree, "whole"), keeps(table, degree, "whole"))
                if many == 1:
                    self.same(board.grows(ticket), not never_grows(table))
                else:
                    self.same(board.keeps(ticket, 2, "crosswise"), keeps(table, 2, "crosswise"))
            self.same(seen(board), before)

    def test_what_is_returned_belongs_to_the_caller(self):
        board = written((mid[0], (mid[1], ((half, half),))))
        before = seen(board)
        for value in (board.tickets(), board.sheet(), board.table(0), board.given(1), board.asks()):
            empty(value)
            if isinstance(value, list):
                value.append(7)
        self.same(seen(board), before)
        table = board.table(0)
        board.weigh(0, 0, 0, half)
        self.same(table, mid)

    def test_tickets(self):
        board = Board(1)
        board.add_stage(((),))
        self.same([board.add_tell(((x,),)) for x in (zero, half, unit)], [0, 1, 2])
        board.drop_tell(2)
        self.same(board.add_tell(((less,),)), 3)
        board.drop_tell(0)
        self.same(board.tickets(), [1, 3])
        self.same(board.given(3), ((((zero,),),), ((less,),)))
        # What undo takes back is given again; what is dropped comes back as it was, at its place.
        board.undo()
        self.same(board.tickets(), [0, 1, 3])
        board.undo()
        self.same(board.tickets(), [0, 1])
        self.same(board.add_tell(((unit,),)), 3)
        for _ in range(2):
            board.undo()
        self.same(board.tickets(), [0, 1, 2])
        self.same(board.add_tell(((unit,),)), 3)
        for ticket in (0, 1, 2, 3):
            board.drop_tell(ticket)
        self.same(board.tickets(), [])
        self.same(board.add_tell(((unit,),)), 4)
        # undo is no deed.
        for _ in range(10):
            board.undo()
        self.same(board.tickets(), [])
        with self.assertRaises(NothingDone):
            for _ in range(3):
                board.undo()

    def test_given_does_not_change(self):
        board = written((mid[0], (mid[1],)))
        for deed in (lambda: board.weigh(0, 0, 0, half), lambda: board.hang(0, 0, 1, less), lambda: board.scale((7, 3)),
                     lambda: board.go_behind(implicit), lambda: board.make("lots"), lambda: board.add_stage(((unit,) * 3,)), board.undo):
            deed()
            self.same(board.given(0), mid)
        self.assertNotEqual(board.table(0), mid)


class Making(Case):

    def sheets(self):
        for seed in range(30):
            tables = [some_table(seed + 100 * at, 1 + seed % 2, seed % 4, explicit=seed % 3 > 0) for at in range(2)]
            yield (tables[0][0], tuple(table[1] for table in tables)[:seed % 3])
        twins = ((((half, zero, zero), ((1, 4), (1, 4), zero), (unit, zero, zero)),), ((((1, 4), (3, 4), zero),),))
        yield twins

    def test_make(self):
        for sheet in self.sheets():
            for word, made in (("least", least_sheet(sheet)), ("lots", lot_sheet(sheet, lots(sheet))),
                               ("order", put_in_order(sheet) if is_explicit(sheet) else None)):
                board = written(sheet)
                before = seen(board)
                self.same(board.sheet(), sheet)
                if made is None:
                    with self.assertRaises(CanNot):
                        board.make(word)
                    self.same(seen(board), before)
                    continue
                told = [(board.stays(ticket), board.parted(ticket), [board.alike(ticket, other) for other in board.tickets()])
                        for ticket in board.tickets()]
                self.same(board.make(word=word), None)
                self.same(board.sheet(), made)
                self.same((board.tickets(), [board.given(ticket) for ticket in board.tickets()]), (before[1], before[3]))
                self.assertTrue(is_sheet(board.sheet(), len(sheet[0])))
                self.same([(board.stays(ticket), board.parted(ticket), [board.alike(ticket, other) for other in board.tickets()])
                           for ticket in board.tickets()], told)
                self.same(board.undo(), None)
                self.same(seen(board), before)

    def test_parted_stays_parted(self):
        board = written((mid[0], (mid[1], mid[1])))
        board.weigh(1, 0, 0, (1, 7))
        board.hang(0, 1, 0, (1, 3))
        told = (board.stays(0), board.parted(0), board.parted(1), board.alike(0, 1))
        self.same(told, (False, 2, 1, False))
        for word in ("lots", "least", "order", "least", "lots"):
            board.make(word)
            self.same((board.stays(0), board.parted(0), board.parted(1), board.alike(0, 1)), told)

    def test_another_word(self):
        board = written((mid[0], (mid[1],)))
        before = seen(board)
        for word in ("", "Least", "lot", "ordered", None, 3):
            with self.assertRaises(Unfit):
                board.make(word)
        self.same(seen(board), before)


class Refused(Case):

    def refused(self, board, error, call, place=None):
        """The call is refused by this error, and leaves all as it was."""
        before = seen(board)
        with self.assertRaises(error) as caught:
            call()
        self.assertIs(type(caught.exception), error)
        if error is NoPlace:
            self.same(caught.exception.place, place)
        self.same(seen(board), before)

    def board(self):
        board = written((two[0], (two[1], two[1])))
        board.drop_tell(0)
        return board

    def test_no_place_in_the_order_of_the_arguments(self):
        b = self.board()
        for ticket in (0, 2, -1, 7):
            for call in (lambda: b.table(ticket), lambda: b.given(ticket), lambda: b.weigh(ticket, 9, 9, half), lambda: b.drop_tell(ticket),
                         lambda: b.stays(ticket), lambda: b.parted(ticket), lambda: b.alike(ticket, 8), lambda: b.order(ticket, 3),
                         lambda: b.keeps(ticket, 3, "never"), lambda: b.grows(ticket)):
                self.refused(b, NoPlace, call, ticket)
        self.refused(b, NoPlace, lambda: b.alike(1, 0), 0)
        for part in (2, -1):
            self.refused(b, NoPlace, lambda: b.hang(part, 5, 6, half), part)
            self.refused(b, NoPlace, lambda: b.weigh(1, part, 5, half), part)
        for stage in (2, -1):
            self.refused(b, NoPlace, lambda: b.hang(1, stage, 6, half), stage)
            self.refused(b, NoPlace, lambda: b.hang(1, 0, stage, half), stage)
            self.refused(b, NoPlace, lambda: b.weigh(1, 1, stage, half), stage)
            self.refused(b, NoPlace, lambda: b.drop_stage(stage), stage)

    def test_keeps_and_grows_raise_the_same(self):
        b = self.board()
        self.refused(b, CanNot, lambda: b.keeps(1, 2, "never"))
        self.refused(b, Unfit, lambda: b.keeps(1, 1, "crosswise"))
        self.refused(b, Unfit, lambda: b.grows(1))
        b = written((mid[0], (mid[1],)))
        self.refused(b, Unfit, lambda: b.keeps(0, 2, "crosswise"))
        self.same(b.grows(0), True)

    def test_rows_that_do_not_fit(self):
        b = self.board()
        right = ((half, zero), (unit, less))
        for rows in ((), right[:1], right + right[:1], ((half,), (unit,)), ((half, zero, zero), (unit, less, zero)), ((half, zero), (unit,)), None, 7, "rows",
                     (None, None), ((half, 1), (unit, less)), ((half, (2, 4)), (unit, less)), ((half, (1, 0)), (unit, less)), (half, unit),
                     ((half, None), (unit, less)), (((1, True), half), (unit, less))):
            self.refused(b, Unfit, lambda: b.add_stage(rows))
            self.refused(b, Unfit, lambda: b.add_tell(rows))
        self.same((b.add_stage(right), b.add_tell([[half, zero, less], [unit, less, zero]])), (2, 2))
        for table in (mid, (two[0] * 2, two[1] * 2), (((),) * 3, ((),) * 3)):
            self.refused(b, Unfit, lambda: b.go_behind(table))

    def test_drop_stage(self):
        # Stage 2 hangs on itself alone, and nothing on it; a tell hangs on stage 0, stage 0 on stage 1.
        b = written(((((zero, half, zero), (zero, zero, zero), (zero, zero, unit)),), (((unit, zero, zero),),)))
        self.refused(b, CanNot, lambda: b.drop_stage(0))
        self.refused(b, CanNot, lambda: b.drop_stage(1))
        self.same(b.drop_stage(2), None)
        self.same(b.sheet(), ((((zero, half), (zero, zero)),), (((unit, zero),),)))
        b.hang(0, 0, 1, zero)
        b.drop_stage(1)
        self.refused(b, CanNot, lambda: b.drop_stage(0))
        b.drop_tell(0)
        b.drop_stage(0)
        self.same(b.sheet(), (((),), ()))
        self.refused(b, NoPlace, lambda: b.drop_stage(0), 0)
        # Later ones come one place forward.
        b = written(((((zero,) * 3, (unit, zero, zero), (half, zero, zero)),), (((less, zero, unit),),)))
        b.drop_stage(1)
        self.same(b.sheet(), ((((zero, zero), (half, zero)),), (((less, unit),),)))

    def test_hang_on_itself_and_on_later_ones(self):
        b = written(((((zero, zero), (zero, zero)),), ()))
        b.hang(0, 0, 0, half)
        b.hang(0, 0, 1, less)
        self.same(b.sheet()[0], (((half, less), (zero, zero)),))
        self.refused(b, CanNot, lambda: b.make("order"))

    def test_go_behind(self):
        b = written((mid[0], (mid[1], ((half, half),))))
        b.go_behind(implicit)
        for ticket, weights in ((0, mid[1]), (1, ((half, half),))):
            self.same(b.table(ticket), behind(implicit, (mid[0], weights)))
        # Without stages, without tells.
        b = Board(1)
        b.go_behind(mid)
        self.same(b.sheet(), (mid[0], ()))
        b = Board(2)
        b.add_tell(((), ()))
        b.go_behind(two)
        self.same(b.sheet(), (two[0], (two[1],)))
        self.same((b.stays(0), b.given(0)), (False, (((), ()), ((), ()))))


if __name__ == "__main__":
    unittest.main()
