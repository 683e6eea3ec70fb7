import random
import unittest
from fractions import Fraction

from everychange.engine import is_solution, points_of, run_of
from everychange.errors import CanNot, Unfit
from everychange.planruns import plan_of, plan_sheet, plan_table
from everychange.plans import is_plan, ways
from everychange.tables import behind, is_explicit, is_sheet, is_table, repeated, rounds, scaled, told, undone
from tests.helpers import HALF, ONE, ZERO, Case, pair, ratio
from tests.test_changes import some_change, some_state, value
from tests.test_engine import some_ladder
from tests.test_plans import EULER, FORK, MIDDLE, every, good_steps, heun, plan
from tests.test_tables import euler, implicit, mid, some_sheet, two

i, o, half, m = ONE, ZERO, HALF, (-1, 1)
euler_plan, middle_plan = (1, (("m", EULER),)), (1, (("m", MIDDLE),))


def main(*steps, ahead=EULER, parts=1):
    return (parts, (("one", ahead), ("main", steps)))


class Reckoned:
    """Rounds of a PLAN by their own words: each STEP is done with numbers.

    points are what is asked at, in order; where a point comes before it can be told (solve, back) they are taken as
    given, and looked at afterwards.
    """

    def __init__(self, test, plan_there, change, h, points):
        self.test, self.change, self.h, self.points = test, change, ratio(h), points
        self.titles = dict(plan_there[1])
        self.last, self.asked, self.choices = plan_there[1][-1][0], 0, []

    def rise(self, part, at, x):
        return [self.h * x * value(poly, self.points[at]) for poly in self.change[part]]

    def place(self, held, looked_at):
        """Which point this is; a name that was given anew is another one."""
        if held[1] is None:
            held[1] = self.asked
            self.asked += 1
        if looked_at and held[0] is not None:
            self.test.assertEqual(tuple(pair(x) for x in held[0]), self.points[held[1]])
        return held[1]

    def rounds(self, start, ways_there):
        tells = []
        for way in ways_there:
            self.choices = list(way)
            tells += self.run(self.last, Fraction(1), tells[-1] if tells else [ratio(x) for x in start], True)
            self.test.assertEqual(self.choices, [])
        return [tuple(pair(x) for x in tell) for tell in tells]

    def run(self, title, x, start, looked_at):
        tells = []
        self.follow(self.titles[title], x, {"y": [start, None]}, tells, looked_at)
        return tells

    def follow(self, steps, x, names, tells, looked_at):
        for step in steps:
            if step[0] == "tell":
                tells.append(names[step[1]][0])
            elif step[0] == "either":
                self.follow(step[1 if self.choices.pop(0) else 2], x, names, tells, looked_at)
            elif step[0] == "ask":
                names[step[1]] = [self.rise(step[2], self.place(names[step[3]], looked_at), x), None]
            elif step[0] == "mix":
                names[step[1]] = [self.mixed(step[2], names), None]
            elif step[0] == "call":
                point = names[step[5]][0]
                for _ in range(step[4]):
                    point = self.run(step[2], x * ratio(step[3]), point, looked_at)[-1]
                names[step[1]] = [point, None]
            elif step[0] == "back":
                names[step[1]] = [self.back(step, x, names[step[4]][0], looked_at), None]
            else:
                self.solve(step[1], x, names, looked_at)

    def mixed(self, terms, names):
        return [sum((ratio(share) * names[name][0][k] for share, name in terms), Fraction(0))
                for k in range(len(self.change[0]))]

    def solve(self, steps, x, names, looked_at):
        for step in steps:
            if step[0] == "mix":
                names[step[1]] = [None, None]
        for step in steps:
            if step[0] == "ask":
                names[step[1]] = [self.rise(step[2], self.place(names[step[3]], looked_at), x), None]
        for step in steps:
            if step[0] == "mix":
                names[step[1]][0] = self.mixed(step[2], names)
        for step in steps:
            if step[0] == "ask":
                self.place(names[step[3]], looked_at)

    def back(self, step, x, point, looked_at):
        """The start is as much before point as a run brings; then the run from there is looked at, and leads to point."""
        asked, choices = self.asked, list(self.choices)
        x = x * ratio(step[3])
        led = self.run(step[2], x, [Fraction(0)] * len(point), False)[-1]
        start = [a - b for a, b in zip(point, led)]
        self.asked, self.choices = asked, choices
        self.test.assertEqual(self.run(step[2], x, start, looked_at)[-1], point)
        return start


class SomePlan:
    """A PLAN of STEPS drawn one after another."""

    def __init__(self, seed, parts, solving):
        self.source, self.parts, self.solving, self.names = random.Random(seed), parts, solving, 0
        routines = []
        for at in range(1 + seed % 3):
            self.titles = [title for title, steps in routines]
            steps, points, rises = self.steps(2 + seed % 4, ["y"], [], 2)
            routines.append(("r" + str(at), tuple(steps) + (("tell", points[-1]),)))
        self.plan = (parts, tuple(routines))

    def name(self):
        self.names += 1
        return "n" + str(self.names)

    def share(self):
        return pair(Fraction(self.source.choice((-2, -1, 1, 2)), self.source.choice((1, 2, 3))))

    def sum_at(self, points, rises):
        x = self.share()
        first, second = self.source.choice(points), self.source.choice(points)
        rest = pair(1 - ratio(x))
        terms = [(x, first)] + ([(rest, second)] if rest != o else [])
        return tuple(terms + [(self.share(), self.source.choice(rises)) for _ in range(2) if rises])

    def steps(self, many, points, rises, eithers):
        points, rises, found = list(points), list(rises), []
        for _ in range(many):
            word = self.source.choice(("ask", "ask", "mix", "tell", "call", "back", "either", "solve"))
            name = self.name()
            if word == "ask":
                found.append(("ask", name, self.source.randrange(self.parts), self.source.choice(points)))
                rises.append(name)
            elif word == "mix":
                found.append(("mix", name, self.sum_at(points, rises)))
                points.append(name)
            elif word == "tell":
                found.append(("tell", self.source.choice(points)))
            elif word == "call" and self.titles:
                found.append(("call", name, self.source.choice(self.titles), self.share(), self.source.choice((1, 2)),
                              self.source.choice(points)))
                points.append(name)
            elif word == "back" and self.titles and self.solving:
                found.append(("back", name, self.source.choice(self.titles), self.share(), self.source.choice(points)))
                points.append(name)
            elif word == "either" and eithers:
                sides = []
                for _ in range(2):
                    side, inner, _ = self.steps(self.source.randrange(3), points, rises, eithers - 1)
                    sides.append(tuple(side) + (("mix", name, ((i, self.source.choice(inner)),)),))
                found.append(("either", sides[0], sides[1]))
                points.append(name)
            elif word == "solve" and self.solving:
                g, k = self.name(), self.name()
                block = [("ask", name, 0, g), ("mix", g, self.sum_at(points, rises + [name, k])),
                         ("ask", k, self.parts - 1, self.source.choice(points + [g]))]
                self.source.shuffle(block)
                found.append(("solve", tuple(block)))
                points.append(g)
                rises.extend([name, k])
        return found, points, rises


class Sheets(Case):

    def looks_right(self, plan_there, ways_there, change, start, h):
        sheet = plan_sheet(plan_there, ways_there)
        self.assertTrue(is_sheet(sheet, plan_there[0]))
        points = points_of(sheet, change, start, h)
        self.assertTrue(is_solution(sheet, change, start, h, tuple(points)))
        reckoned = Reckoned(self, plan_there, change, h, points)
        tells = reckoned.rounds(start, ways_there)
        self.assertEqual(reckoned.asked, len(points))
        self.same(run_of(sheet, change, start, h), tells)
        return sheet

    def test_the_examples(self):
        self.gives((((1, 2), (1, 2)),), lambda plan, way: plan_table(plan, way)[1], plan=heun, way=())
        steps = (("solve", (("ask", "t0", 0, "g"), ("mix", "g", ((i, "y"), (half, "t0"))))),
                 ("mix", "t1", (((2, 1), "g"), (m, "y"))), ("tell", "t1"))
        self.gives((((((1, 2),),),), ((((1, 1),),),)), plan_sheet, plan=(1, (("m", steps),)), ways=((),))

    def test_own_reckoning(self):
        seen = 0
        for seed in range(120):
            solving = seed % 2 == 1
            plan_there = SomePlan(seed, 1 + seed % 2, solving).plan
            self.assertTrue(is_plan(plan_there))
            all_ways = ways(plan_there)
            source = random.Random(seed)
            for many in (1, 2):
                ways_there = tuple(source.choice(all_ways) for _ in range(many))
                sheet = plan_sheet(plan_there, ways_there)
                if len(sheet[0][0]) <= 14:
                    change = (some_ladder if solving else some_change)(seed, 1 + seed % 2, 2)
                    self.looks_right(plan_there, ways_there, change, some_state(seed, 2), (1, 2))
                    self.gives(sheet, plan_sheet, plan=plan_there, ways=ways_there)
                    seen += 1
        self.assertGreater(seen, 100)

    def test_all_ways(self):
        for plan_there in (every, plan(*list(good_steps())[9])):
            for way in ways(plan_there):
                for ways_there in ((way,), (way,) * 3, (ways(plan_there)[0], way)):
                    self.looks_right(plan_there, ways_there, some_ladder(3, 2, 3), some_state(3, 3), half)
                self.gives(plan_table(plan_there, way), plan_table, plan=plan_there, way=way)

    def test_good_steps(self):
        for steps in good_steps():
            for way in ways(plan(*steps)):
                self.looks_right(plan(*steps), (way, way), some_ladder(5, 2, 2), some_state(5, 2), (-1, 3))

    def test_stages_are_names_given_at_one_time(self):
        # y again under another name is another stage; a point that is asked twice is one.
        steps = (("ask", "a", 0, "y"), ("mix", "z", ((i, "y"),)), ("ask", "b", 0, "z"), ("ask", "c", 1, "y"),
                 ("ask", "d", 0, "y"), ("mix", "z", ((i, "y"),)), ("ask", "e", 1, "z"), ("tell", "y"))
        sheet = plan_sheet(main(*steps, parts=2), ((),))
        self.same(sheet, ((((o,) * 3,) * 3,) * 2, ((((o,) * 3,) * 2),)))
        # In a second round y is given anew.
        self.assertEqual(len(plan_sheet(main(*steps, parts=2), ((), ()))[0][0]), 6)
        # Points that are not asked are no stages.
        none = main(("mix", "a", ((i, "y"),)), ("tell", "a"), ("tell", "y"), parts=3)
        self.gives((((),) * 3, (((),) * 3, ((),) * 3)), plan_sheet, plan=none, ways=((),))
        # A run's y is another one than the point from which it is called.
        steps = (("ask", "a", 0, "y"), ("call", "b", "one", i, 1, "y"), ("ask", "c", 0, "b"), ("tell", "b"))
        sheet = plan_sheet(main(*steps), ((),))
        self.same(sheet, ((((o, o, o), (o, o, o), (o, i, o)),), (((o, i, o),),)))

    def test_order_of_stages(self):
        # As they are first asked, not as they are named; in a solve by its asks.
        steps = (("mix", "a", ((i, "y"),)), ("ask", "k", 0, "y"), ("mix", "b", ((i, "y"), (half, "k"))), ("ask", "l", 0, "b"),
                 ("ask", "n", 0, "a"), ("mix", "c", ((i, "y"), (i, "l"), ((3, 1), "n"))), ("tell", "c"))
        self.same(plan_sheet(main(*steps), ((),)), ((((o, o, o), (half, o, o), (o, o, o)),), (((o, i, (3, 1)),),)))
        block = (("mix", "p", ((i, "y"), (half, "l"))), ("ask", "k", 0, "q"), ("mix", "q", ((i, "p"), (i, "k"))),
                 ("ask", "l", 0, "p"))
        steps = (("ask", "n", 0, "y"), ("solve", block), ("mix", "t", ((i, "q"), (i, "n"))), ("tell", "t"))
        self.same(plan_sheet(main(*steps), ((),)), ((((o, o, o), (o, i, half), (o, o, half)),), (((i, i, half),),)))
        # An ask of a solve at a point that was set, and asked, before.
        steps = (("ask", "n", 0, "y"), ("solve", (("ask", "k", 0, "g"), ("ask", "l", 1, "y"),
                                                  ("mix", "g", ((i, "y"), (i, "k"), (half, "l"), (m, "n"))))), ("tell", "g"))
        self.same(plan_sheet(main(*steps, parts=2), ((),)), ((((o, o), (m, i)), ((o, o), (half, o))), (((m, i), (half, o)),)))

    def test_tells_of_calls_do_not_count(self):
        twice = EULER + (("tell", "y"), ("tell", "z"))
        sheet = plan_sheet(main(("call", "a", "one", half, 1, "y"), ("tell", "a"), ahead=twice), ((),))
        self.same(sheet, ((((o,),),), (((half,),),)))
        # The last tell is what goes on.
        sheet = plan_sheet(main(("call", "a", "one", half, 1, "y"), ("tell", "a"), ahead=EULER + (("tell", "y"),)), ((), ()))
        self.same(sheet, ((((o, o), (o, o)),), (((o, o),), ((o, o),))))

    def test_calls_beside_tables(self):
        for ahead, table in ((EULER, euler), (MIDDLE, ((((half,),),), ((i,),))), (heun[1][0][1], plan_table(heun, ()))):
            for x in (half, (-3, 2), i):
                for many in (1, 2, 3):
                    steps = (("call", "a", "one", x, many, "y"), ("tell", "a"))
                    self.gives(repeated(scaled(table, x), many), plan_table, plan=main(*steps, ahead=ahead), way=())
                steps = (("back", "a", "one", x, "y"), ("tell", "a"))
                self.gives(undone(scaled(table, x)), plan_table, plan=main(*steps, ahead=ahead), way=())
                steps = (("call", "b", "one", half, 2, "y"), ("back", "a", "one", x, "b"), ("tell", "a"))
                self.gives(behind(repeated(scaled(table, half), 2), undone(scaled(table, x))), plan_table,
                           plan=main(*steps, ahead=ahead), way=())

    def test_back_of_back(self):
        routines = (("one", EULER), ("two", (("back", "a", "one", half, "y"), ("tell", "a"))),
                    ("main", (("back", "b", "two", (2, 1), "y"), ("tell", "b"))))
        self.gives(undone(scaled(undone(scaled(euler, half)), (2, 1))), plan_table, plan=(1, routines), way=())
        routines = routines[:1] + (("two", (("call", "a", "one", half, 2, "y"), ("back", "b", "one", m, "a"), ("tell", "b"))),
                                   ("main", (("back", "b", "two", (2, 1), "y"), ("tell", "b"))))
        inner = behind(repeated(scaled(euler, half), 2), undone(scaled(euler, m)))
        self.gives(undone(scaled(inner, (2, 1))), plan_table, plan=(1, routines), way=())

    def test_rounds(self):
        table = plan_table(heun, ())
        for many in (1, 2, 3, 4):
            self.gives(rounds(table, many), plan_sheet, plan=heun, ways=((),) * many)
            self.gives(rounds(plan_table(middle_plan, ()), many), plan_sheet, plan=middle_plan, ways=((),) * many)

    def test_plan_table_is_the_last_tell(self):
        steps = (("ask", "k", 0, "y"), ("mix", "z", ((i, "y"), (i, "k"))), ("tell", "z"), ("mix", "z", ((i, "y"), (half, "k"))),
                 ("tell", "z"))
        plan_there = (1, (("m", steps),))
        self.gives(scaled(euler, half), plan_table, plan=plan_there, way=())
        self.gives(told(plan_sheet(plan_there, ((),)), 1), plan_table, plan=plan_there, way=())
        self.assertTrue(is_table(plan_table(plan_there, ()), 1))

    def test_either(self):
        fork = (1, (("m", FORK),))
        self.gives(euler, plan_table, plan=fork, way=(True,))
        self.gives((((),), ((),)), plan_table, plan=fork, way=(False,))
        self.gives((((o, o), (i, o)),), lambda plan, ways: plan_sheet(plan, ways)[0], plan=fork,
                   ways=((False,), (True,), (False,), (True,)))
        calls = main(("call", "a", "one", half, 3, "y"), ("tell", "a"), ahead=FORK)
        self.gives(repeated(scaled(euler, half), 2), plan_table, plan=calls, way=(True, False, True))
        self.gives(repeated(scaled(euler, half), 1), plan_table, plan=calls, way=(False, False, True))

    def test_no_way(self):
        inner = (1, (("m", (("either", (FORK[0], ("tell", "y")), (("tell", "y"),)),)),))
        for plan_there, ways_there in ((heun, ((True,),)), (heun, ((), (False,))), ((1, (("m", FORK),)), ((),)),
                                       ((1, (("m", FORK),)), ((True,), (True, True))), (inner, ((True,),)),
                                       (inner, ((False, True),)), (inner, ((False,), (True, True), (False, False)))):
            self.raises(Unfit, plan_sheet, plan=plan_there, ways=ways_there)
            self.raises(Unfit, plan_table, plan=plan_there, way=ways_there[-1])
        self.raises(Unfit, plan_sheet, plan=inner, ways=((False, True), (False,)))
        self.raises(Unfit, plan_table, plan=inner, way=(1, 0))
        self.raises(Unfit, plan_table, plan=inner, way=(None,))

    def test_long_rounds(self):
        steps = (("call", "a", "one", (1, 8), 8, "y"), ("call", "a", "one", (1, 8), 8, "a"), ("tell", "a"))
        plan_there = main(*steps, ahead=heun[1][0][1])
        self.same(plan_table(plan_there, ()), repeated(scaled(plan_table(heun, ()), (1, 8)), 16))
        self.assertEqual(len(plan_sheet(plan_there, ((),) * 4)[0][0]), 128)


class PlansOf(Case):

    def looks_right(self, sheet):
        found = plan_of(sheet)
        self.gives(found, plan_of, sheet=sheet)
        self.assertTrue(is_plan(found))
        parts, routines = found
        self.assertEqual((parts, len(routines)), (len(sheet[0]), 1))
        words = [step[0] for step in routines[0][1]]
        self.assertTrue(set(words) <= {"ask", "mix", "solve", "tell"})
        later = any(matrix[stage][k] != o for matrix in sheet[0] for stage in range(len(matrix))
                    for k in range(stage, len(matrix)))
        if "solve" in words:
            self.assertTrue(later)
        self.same(plan_sheet(found, ((),)), sheet)
        self.same(ways(found), [()])

    def test_plan_of(self):
        for seed in range(60):
            self.looks_right(some_sheet(seed, 1 + seed % 4, seed % 5, 1 + seed % 3, explicit=seed % 2 == 0))
        for table in (euler, mid, implicit, two, (((),), ((),)), ((((o,) * 3,) * 3,), ((o,) * 3,))):
            self.looks_right((table[0], (table[1],)))
        # Stages in any order: a later one is asked first.
        back_to_front = ((((o, half), (o, o)),), (((half, half),),))
        self.assertTrue(is_explicit(back_to_front))
        self.looks_right(back_to_front)

    def test_stages_on_which_nothing_hangs(self):
        self.looks_right(((((o, o), (o, o)), ((o, o), (o, o))), (((o, o), (o, o)),)))
        self.looks_right(((((i, o), (o, o)), ((o, o), (o, o))), (((o, o), (o, i)), ((o, o), (o, o)))))
        self.looks_right((((), ()), (((), ()), ((), ()))))

    def test_without_tells(self):
        for sheet in ((((),), ()), (mid[0], ()), (two[0], ())):
            self.raises(CanNot, plan_of, sheet=sheet)

    def test_greatest(self):
        self.looks_right(some_sheet(1, 4, 16, 8))
        self.looks_right(some_sheet(2, 4, 16, 8, explicit=True))

    def test_of_a_plan(self):
        for plan_there in (heun, euler_plan, middle_plan, every):
            for way in ways(plan_there):
                self.looks_right(plan_sheet(plan_there, (way, way)))


if __name__ == "__main__":
    unittest.main()
