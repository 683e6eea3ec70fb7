import unittest

from everychange.alike import is_alike
from everychange.askcode import ask_log, ask_plan, asks_made, is_unseen_pair, unseen_pair, ways_sheet
from everychange.asks import ask_order, needed_asks
from everychange.changes import is_change, part_rates
from everychange.engine import points_of, run_of
from everychange.errors import CanNot, Unfit
from everychange.lots import lots
from everychange.planlines import plan_by
from everychange.planruns import plan_sheet
from everychange.plans import is_plan, ways
from everychange.tables import told
from tests.helpers import HALF, ONE, ZERO, Case
from tests.test_asks import both, sheets, solved, some_sets, tried
from tests.test_changes import some_change, some_state
from tests.test_planruns import SomePlan
from tests.test_plans import every, good_steps, heun, plan
from tests.test_tables import some_sheet

o, half, e = ZERO, HALF, ONE
one, square = (((((0,), e),),),), (((((0,), e), ((2,), e)),),)


def solvable(sheet, tells):
    try:
        ask_order(sheet, tells)
    except CanNot:
        return False
    return True


def sheets_and_sets():
    """SHEETS and sets of tells that can be told one ASK after another."""
    for sheet in sheets():
        for tells in some_sets(sheet)[::3]:
            if solvable(sheet, tells):
                yield sheet, tells


class Plans(Case):

    def test_ask_plan(self):
        seen = 0
        for sheet, tells in sheets_and_sets():
            if not tells:
                continue
            made = ask_plan(sheet, tells)
            self.gives(made, ask_plan, sheet=sheet, tells=tells)
            self.assertTrue(is_plan(made))
            self.assertEqual((made[0], len(made[1])), (len(sheet[0]), 1))
            steps = made[1][0][1]
            self.assertTrue({step[0] for step in steps} <= {"ask", "mix", "tell"})
            asks = [step for step in steps if step[0] == "ask"]
            self.assertEqual(len(asks), len(needed_asks(sheet, tells)))
            self.assertEqual([step[2] for step in asks], [part for lot, part in ask_order(sheet, tells)])
            self.assertEqual(asks_made(made, ()), len(asks))
            found = plan_sheet(made, ((),))
            self.assertEqual(len(found[1]), len(tells))
            for at, number in enumerate(tells):
                self.assertTrue(is_alike(told(found, at), told(sheet, number)))
            seen += 1
        self.assertGreater(seen, 20)

    def test_asks_in_order(self):
        # The lots are asked one behind another, as a run of the PLAN meets them.
        for seed in range(12):
            sheet = some_sheet(seed, 2, 4, 2, explicit=True)
            made = ask_plan(sheet, (0, 1))
            change, start = some_change(seed, 2, 2), some_state(seed, 2)
            points = points_of(plan_sheet(made, ((),)), change, start, half)
            log = []
            names = {}
            for step in made[1][0][1]:
                if step[0] == "ask":
                    names.setdefault(step[3], len(names))
                    log.append((step[2], points[names[step[3]]]))
            self.same(log, ask_log(sheet, (0, 1), change, start, half))

    def test_errors(self):
        for tells in ((), (2,), (0, 1, 2)):
            self.raises(CanNot, ask_plan, sheet=solved, tells=tells)
        self.raises(CanNot, ask_plan, sheet=tried, tells=())
        self.raises(CanNot, ask_plan, sheet=(tried[0], ()), tells=())
        self.no_place(3, ask_plan, sheet=tried, tells=(0, 3))
        self.no_place(4, ask_plan, sheet=solved, tells=(2, 4))
        self.assertTrue(is_plan(ask_plan(solved, (0,))))
        self.same(asks_made(ask_plan(solved, (3,)), ()), 0)


def asked(plan_there, way):
    """The asks of a round, by running the STEPS one by one."""
    titles, choices, found = dict(plan_there[1]), list(way), []

    def run(steps):
        for step in steps:
            if step[0] == "ask":
                found.append(step)
            elif step[0] == "solve":
                run(step[1])
            elif step[0] == "either":
                run(step[1] if choices.pop(0) else step[2])
            elif step[0] == "call":
                for _ in range(step[4]):
                    run(titles[step[2]])
            elif step[0] == "back":
                run(titles[step[2]])
    run(plan_there[1][-1][1])
    return len(found)


class Made(Case):

    def test_asks_made(self):
        self.gives(2, asks_made, plan=heun, way=())
        self.gives(7, asks_made, plan=plan_by("parts 1\nm:\n  k = f0(y)\n  tell y + k\nn:\n  a = m(y) times 3\n  b = back m(a)\n  solve\n"
                                              "    g = b + f0(g) + f0(b)\n  l = f0(g)\n  tell b"), way=())
        for made in [every] + [plan(*steps) for steps in good_steps()] + [SomePlan(seed, 2, True).plan for seed in range(40)]:
            for way in ways(made)[:6]:
                self.gives(asked(made, way), asks_made, plan=made, way=way)

    def test_no_way(self):
        for way in ((True, True), (), (None,), (1,)):
            self.raises(Unfit, asks_made, plan=every, way=way)
        self.raises(Unfit, asks_made, plan=heun, way=(True,))

    def test_ways_sheet(self):
        for made in [heun, every] + [plan(*steps) for steps in good_steps()] + [SomePlan(seed, 2, True).plan for seed in range(20)]:
            every_way = ways(made)
            if len(every_way) > 4:
                continue
            found = ways_sheet(made)
            self.gives(found, ways_sheet, plan=made)
            stages, tells = 0, 0
            for way in every_way:
                own = plan_sheet(made, (way,))
                many = len(own[0][0])
                for matrix, others in zip(found[0], own[0]):
                    self.same(tuple(row[stages:stages + many] for row in matrix[stages:stages + many]), others)
                    self.assertFalse(any(x[0] for row in matrix[stages:stages + many] for x in row[:stages] + row[stages + many:]))
                for tell in own[1]:
                    rows = found[1][tells]
                    self.same(tuple(row[stages:stages + many] for row in rows), tell)
                    self.assertFalse(any(x[0] for row in rows for x in row[:stages] + row[stages + many:]))
                    tells += 1
                stages += many
            self.assertEqual((len(found[0][0]), len(found[1])), (stages, tells))

    def test_ways_come_in_order(self):
        fork = plan_by("parts 1\nm:\n  either\n    tell y + f0(y)\n  else\n    tell y")
        self.gives(((((o,),),), (((o,),), ((e,),))), ways_sheet, plan=fork)


class Logs(Case):

    def test_the_example(self):
        self.gives([(0, ((0, 1),)), (0, ((1, 2),))], ask_log, sheet=tried, tells=(1,), change=square, start=(o,), h=e)

    def test_beside_runs(self):
        for sheet, tells in sheets_and_sets():
            parts = len(sheet[0])
            change, start = some_change(len(sheet[0][0]), parts, 2), some_state(parts, 2)
            order = ask_order(sheet, tells)
            try:
                points = points_of(sheet, change, start, half)
            except CanNot:
                # Some stages that are not needed can not be told.
                self.assertEqual(len(ask_log(sheet, tells, change, start, half)), len(order))
                continue
            expected = [(part, points[lots(sheet)[lot][0]]) for lot, part in order]
            self.gives(expected, ask_log, sheet=sheet, tells=tells, change=change, start=start, h=half)

    def test_not_all_can_be_told(self):
        change = (((((1,), e),),),)
        self.gives([(0, (e,))], ask_log, sheet=solved, tells=(0,), change=change, start=(e,), h=half)
        self.gives([], ask_log, sheet=solved, tells=(), change=change, start=(e,), h=half)
        for tells in ((1,), (2,), (0, 1)):
            self.raises(CanNot, ask_log, sheet=solved, tells=tells, change=change, start=(e,), h=half)
        self.no_place(4, ask_log, sheet=solved, tells=(1, 4), change=change, start=(e,), h=half)


class Unseen(Case):

    def test_the_example(self):
        self.is_one(is_unseen_pair, [(one, square)], sheet=tried, tells=(1,), ask=(1, 0))
        self.is_none(is_unseen_pair, [(square, one), (one, one)], sheet=tried, tells=(1,), ask=(0, 0))

    def looks_right(self, sheet, tells, ask, thing):
        first, second = thing
        for change in thing:
            self.assertTrue(is_change(change))
            self.assertEqual((len(change), len(change[0])), (len(sheet[0]), 1))
        order, log = ask_order(sheet, tells), ask_log(sheet, tells, first, (o,), e)
        states = {}
        for own, (part, state) in zip(order, log):
            states.setdefault(own[0], set()).add(state)
            if own != ask:
                self.same(part_rates(first, part, state), part_rates(second, part, state))
        self.assertEqual(len(set().union(*states.values())), len(states))
        made = plan_sheet(ask_plan(sheet, tells), ((),))
        self.assertNotEqual(run_of(made, first, (o,), e), run_of(made, second, (o,), e))

    def test_unseen_pairs(self):
        seen = 0
        for sheet, tells in sheets_and_sets():
            for ask in needed_asks(sheet, tells):
                found = unseen_pair(sheet, tells, ask)
                self.looks_right(sheet, tells, ask, found)
                self.assertTrue(is_unseen_pair(sheet, tells, ask, found))
                if seen % 8 == 0:
                    self.gives(found, unseen_pair, sheet=sheet, tells=tells, ask=ask)
                    self.gives(True, is_unseen_pair, sheet=sheet, tells=tells, ask=ask, thing=found)
                seen += 1
        self.assertGreater(seen, 60)

    def test_greatest(self):
        sheet, tells = some_sheet(3, 4, 16, 8, explicit=True), tuple(range(8))
        needed = needed_asks(sheet, tells)
        self.assertEqual(len(needed), 64)
        for ask in (needed[0], needed[30], needed[-1]):
            self.looks_right(sheet, tells, ask, unseen_pair(sheet, tells, ask))
            self.assertTrue(is_unseen_pair(sheet, tells, ask, unseen_pair(sheet, tells, ask)))

    def test_what_is_none(self):
        at = dict(sheet=tried, tells=(1,), ask=(1, 0))
        # Unlike at the first ASK, too; alike at all; no STATES of unlike lots apart (the first stage asks 0).
        still, line = (((),),), (((((1,), e),),),)
        two = (((((0,), (2, 1)),),),)
        self.is_none(is_unseen_pair, [(one, two), (one, one), (square, square), (still, line), (one, one + one), (one + one, square),
                                      (((((), ),)), square), (one,), (one, square, one), None, (), [one, square], (one, None), "pair"], **at)
        self.only_unbent(is_unseen_pair, (one, square), **at)
        # Of two cells.
        wide = (((((0, 0), e),), ()),)
        self.is_none(is_unseen_pair, [(wide, wide)], **at)
        # Powers to 100 are let.
        self.is_one(is_unseen_pair, [(one, (((((0,), e), ((100,), e)),),))], **at)
        self.is_none(is_unseen_pair, [(one, (((((0,), e), ((101,), e)),),))], **at)
        # Equal rates, but the tell is alike: x (x - 1/2) is 0 at both ASKS.
        self.is_none(is_unseen_pair, [(one, (((((0,), e), ((1,), (-1, 2)), ((2,), e)),),))], **at)

    def test_only_the_part_that_is_asked_counts(self):
        # Part 1 is not asked at lot 0: there its rates may be unlike.
        sheet = ((((o, o), (half, o)), ((o, o), (o, o))), (((o, o), (o, e)),))
        first = (one[0], one[0])
        second = (one[0], (((((0,), (2, 1)),)),))
        self.is_one(is_unseen_pair, [(first, second)], sheet=sheet, tells=(0,), ask=(1, 1))
        self.is_none(is_unseen_pair, [(first, second)], sheet=sheet, tells=(0,), ask=(0, 0))

    def test_errors(self):
        for function, more in ((unseen_pair, {}), (is_unseen_pair, {"thing": (one, square)}), (is_unseen_pair, {"thing": None})):
            self.raises(CanNot, function, sheet=solved, tells=(1,), ask=(2, 0), **more)
            self.raises(CanNot, function, sheet=solved, tells=(2,), ask=(7, 7), **more)
            self.no_place(9, function, sheet=solved, tells=(2, 9), ask=(7, 7), **more)
            for ask in ((1, 0), (0, 1), (2, 0), (-1, 0)):
                self.raises(Unfit, function, sheet=tried, tells=(0,), ask=ask, **more)
            self.raises(Unfit, function, sheet=tried, tells=(), ask=(0, 0), **more)
        self.assertTrue(unseen_pair(solved, (0,), (1, 0)))

    def test_two_parts_at_one_lot(self):
        for ask in ((0, 0), (0, 1)):
            found = unseen_pair(both, (0,), ask)
            self.looks_right(both, (0,), ask, found)
            self.is_none(is_unseen_pair, [found], sheet=both, tells=(0,), ask=(0, 1 - ask[1]))

    def test_spoilt_ones(self):
        for seed in range(20):
            sheet = some_sheet(seed, 2, 4, 2, explicit=True)
            for ask in needed_asks(sheet, (0, 1)):
                first, second = unseen_pair(sheet, (0, 1), ask)
                for thing in ((second, first), (first, first), (first, some_change(seed, 2, 1)), (some_change(seed, 2, 1), second)):
                    expected = False
                    try:
                        self.looks_right(sheet, (0, 1), ask, thing)
                        expected = True
                    except AssertionError:
                        pass
                    self.same(is_unseen_pair(sheet, (0, 1), ask, thing), expected)


if __name__ == "__main__":
    unittest.main()
