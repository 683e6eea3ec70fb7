import itertools
import random
import unittest

from everychange.alike import degree_ladder, one_cell_paper, sharp_pair, told_space
from everychange.askcode import ask_plan, unseen_pair
from everychange.asks import needed_asks
from everychange.changes import tree_change
from everychange.errors import Unfit
from everychange.kept import losing_change, losing_power
from everychange.kinds import all_kind, degree_kind, driven_kind, kind_rows, parting_on, second_kind, time_kind
from everychange.leastpower import parting_ladder
from everychange.least import split_stage
from everychange.lots import lots
from everychange.papers import comes_of, is_paper_against, is_paper_for, is_statement, paper, stands, verdicts
from everychange.parting import parting_run
from everychange.tables import beside, repeated, sheet_of, told
from tests.helpers import HALF, ONE, ZERO, Case
from tests.test_alike import hidden
from tests.test_asks import both as two_asks
from tests.test_asks import tried
from tests.test_kept import double, leap, middle, nothing, pairs, plain, size, turn, unlike
from tests.test_tables import implicit, some_sheet, some_table, two

none, one, half = ZERO, ONE, HALF
mid = ((((none, none), (half, none)),), ((none, one),))
split, ends = told(split_stage(sheet_of(mid), 1, half), 0), ((((none, none), (one, none)),), ((half, half),))
bush = tree_change((0, ((0, ()), (0, ()))), 1)
forth, back = ((0, one), (1, one)), ((1, one), (0, one))


def both(table, other):
    return beside(sheet_of(table), sheet_of(other))


def standing():
    """STATEMENTS that stand."""
    yield ("rows", forth, ((0, half), (0, half), (2, none), (1, one)))
    yield ("rows", (), ((3, none),))
    yield ("same", mid, split)
    yield ("same", mid, mid)
    yield ("same", nothing, nothing)
    yield ("degree", mid, ends, 1)
    yield ("degree", mid, split, 40)
    yield ("degree", sharp_pair(4)[0], sharp_pair(4)[1], 2)
    yield ("kind", degree_kind(1, 1), mid, ends)
    yield ("kind", second_kind(), two, hidden(two, 3))
    yield ("kind", ((0, ()),), mid, plain)
    yield ("asks", tried, (0, 1, 2), 2)
    yield ("asks", tried, (0,), 1)
    yield ("asks", two_asks, (0,), 5)
    yield ("asks", (((),), (((),),)), (0,), 0)
    yield ("keeps", plain, 1, "each")
    yield ("keeps", middle, 2, "whole")
    yield ("keeps", double, 2, "each")
    yield ("keeps", nothing, 3, "each")
    yield ("keeps", leap, 2, "crosswise")
    yield ("keeps", pairs, 1, "whole")


def fallen():
    """STATEMENTS that do not."""
    yield ("rows", forth, back)
    yield ("rows", ((2, half),), ())
    yield ("same", mid, ends)
    yield ("same", nothing, implicit)
    yield ("degree", mid, ends, 2)
    yield ("degree", mid, ends, 9)
    yield ("degree", mid, plain, 1)
    yield ("degree", sharp_pair(4)[0], sharp_pair(4)[1], 3)
    yield ("kind", time_kind(), mid, ends)
    yield ("kind", all_kind(2), two, leap)
    yield ("kind", driven_kind(), mid, ends)
    yield ("asks", tried, (0, 1, 2), 1)
    yield ("asks", tried, (0,), 0)
    yield ("asks", two_asks, (0,), 1)
    yield ("keeps", plain, 2, "each")
    yield ("keeps", middle, 3, "whole")
    yield ("keeps", leap, 2, "whole")
    yield ("keeps", unlike, 1, "whole")
    yield ("keeps", unlike, 2, "crosswise")


def drawn():
    """(STATEMENT, whether it stands) of each kind, by the functions that it names."""
    for seed in range(12):
        parts = 1 + seed % 2
        table = some_table(seed, parts, 1 + seed % 3)
        other = hidden(table, seed) if seed % 3 == 0 else some_table(seed + 40, parts, 1 + (seed + 1) % 3)
        yield ("same", table, other)
        yield ("degree", table, other, seed % 3)
        yield ("kind", degree_kind(parts, seed % 3), table, other)
        yield ("kind", time_kind(), table, other)
        sheet = some_sheet(seed, parts, 1 + seed % 4, 2, explicit=True)
        yield ("asks", sheet, (0, 1), seed % 4)
        for degree, way in ((1, "each"), (2, "each"), (3, "whole"), (1 + seed % 2, "whole")) + (((2, "crosswise"),) if parts == 2 else ()):
            if (losing_power(table, degree, way) or 0) <= 24:
                yield ("keeps", table, degree, way)


class Statements(Case):

    def test_is_statement(self):
        for statement in list(standing()) + list(fallen()):
            self.is_one(is_statement, [statement])

    def test_bent_at_one_place(self):
        for statement in (("rows", forth, back), ("same", mid, ends), ("degree", mid, plain, 2), ("asks", two_asks, (0,), 1),
                          ("keeps", leap, 2, "each")):
            self.only_unbent(is_statement, statement)
        # A KIND has bounds that may be None.
        statement = ("kind", time_kind(), mid, ends)
        for at in (0, 2, 3):
            for other in (None, "x", True, 7, (), [], list(statement[at]) if at else "kinds"):
                self.is_none(is_statement, [statement[:at] + (other,) + statement[at + 1:]])

    def test_what_is_none(self):
        self.is_none(is_statement, [None, (), "same", ("same",), ("same", mid), ("same", mid, ends, 1), ("Same", mid, ends), ["same", mid, ends],
                                    ("alike", mid, ends), (("same",), mid, ends), (["same"], mid, ends), (None, mid, ends), (0, mid, ends),
                                    ("same", mid, two), ("same", two, mid), ("same", sheet_of(mid), sheet_of(mid)), ("same", ((), ()), ((), ())),
                                    ("degree", mid, ends), ("degree", mid, ends, -1), ("degree", mid, two, 1), ("degree", mid, ends, "1"),
                                    ("degree", mid, ends, True), ("rows", forth), ("rows", forth, (0, one)), ("rows", forth, back, ()),
                                    ("kind", time_kind(), mid), ("kind", (), mid, ends), ("kind", all_kind(2), mid, ends),
                                    ("kind", ((0, ()), (1, ())), mid, ends), ("kind", mid, ends, time_kind()), ("kind", time_kind(), mid, two),
                                    ("asks", tried, (), 2), ("asks", tried, (0, 3), 2), ("asks", tried, (-1, 0), 2), ("asks", tried, (1, 0), 2),
                                    ("asks", tried, (0, 0), 2), ("asks", tried, (0,), -1), ("asks", tried, [0], 2), ("asks", tried, 0, 2),
                                    ("asks", sheet_of(implicit), (0,), 2), ("asks", mid, (0,), 1), ("asks", (tried[0], ()), (0,), 1),
                                    ("asks", tried, (0,)), ("asks", tried, (True,), 1),
                                    ("keeps", plain, 0, "each"), ("keeps", plain, 4, "each"), ("keeps", plain, 2, "every"), ("keeps", plain, 2, None),
                                    ("keeps", plain, 2, "crosswise"), ("keeps", leap, 1, "crosswise"), ("keeps", leap, 3, "crosswise"),
                                    ("keeps", some_table(1, 3, 1), 2, "crosswise"), ("keeps", sheet_of(plain), 2, "each"), ("keeps", plain, "each", 2),
                                    ("keeps", plain, True, "each"), ("keeps", plain, 2), 7, "keeps"])
        self.is_one(is_statement, [("asks", tried, (0, 2), 10 ** 40), ("degree", mid, ends, 10 ** 40), ("same", some_table(1, 9, 2), some_table(2, 9, 3))])

    def test_unfit_before_all_else(self):
        for wrong in (("same", mid, two), ("kind", all_kind(2), mid, ends), None, 7, (), ("same",), ("asks", sheet_of(implicit), (0,), 1),
                      ("keeps", leap, 1, "crosswise"), "rows", [["same"], mid, ends]):
            for function in (stands, paper):
                self.raises(Unfit, function, statement=wrong)
            for function in (is_paper_for, is_paper_against):
                self.raises(Unfit, function, statement=wrong, thing=None)
            self.raises(Unfit, comes_of, statement=wrong, statements=())
            self.raises(Unfit, comes_of, statement=("same", mid, mid), statements=(("same", mid, mid), wrong))
            self.raises(Unfit, verdicts, statements=(("same", mid, mid), wrong), things=(None, None))
            self.raises(Unfit, verdicts, statements=(wrong,), things=())


class Judge(Case):

    def test_the_examples(self):
        self.gives(True, is_paper_for, statement=("same", mid, split), thing=((0, 2), (1, 3, 4)))
        self.gives(True, stands, statement=("degree", mid, ends, 1))
        self.same(verdicts((("same", mid, ends), ("same", mid, split), ("degree", mid, ends, 1)), (bush, bush, bush)),
                  ["against", "none", "none"])

    def test_stands(self):
        for statement in standing():
            self.gives(True, stands, statement=statement)
        for statement in fallen():
            self.gives(False, stands, statement=statement)

    def test_papers(self):
        for statement in list(standing()) + list(fallen()):
            self.gives(paper(statement), paper, statement=statement)
        seen = {}
        for statement in list(standing()) + list(fallen()) + list(drawn()):
            can, thing = stands(statement), paper(statement)
            self.assertEqual(is_paper_for(statement, thing), can)
            self.assertEqual(is_paper_against(statement, thing), not can)
            self.same(verdicts((statement,), (thing,)), ["for" if can else "against"])
            seen[statement[0], can] = seen.get((statement[0], can), 0) + 1
        self.assertEqual(len(seen), 12)
        self.assertGreater(min(seen.values()), 1)

    def test_papers_of_others(self):
        # No PAPER for what does not stand, none against what does.
        things = [paper(statement) for statement in list(standing()) + list(fallen())]
        for statement in standing():
            self.is_none(is_paper_against, things, statement=statement)
        for statement in fallen():
            self.is_none(is_paper_for, things, statement=statement)

    def test_bent_papers(self):
        for statement in list(standing()) + list(fallen()):
            thing = paper(statement)
            if statement[0] == "asks" and len(thing) == 2 and isinstance(thing[0], int):
                continue
            function = is_paper_for if stands(statement) else is_paper_against
            if str(thing) in ("()", "((),)", "(((0,),), ((0,),))"):
                self.is_none(function, [None, [], "", 0, True, (None,)], statement=statement)
            elif statement[0] != "asks":
                self.only_unbent(function, thing, statement=statement)

    def test_rows(self):
        statement = ("rows", ((0, one), (0, one)), ((0, (2, 1)), (1, none)))
        self.is_one(is_paper_for, [((0, (2, 1)),)], statement=statement)
        self.is_none(is_paper_for, [statement[1], statement[2], (), ((0, one),)], statement=statement)
        self.is_none(is_paper_for, [forth, back, ()], statement=("rows", forth, back))
        self.is_one(is_paper_against, [parting_run(forth, back)], statement=("rows", forth, back))
        self.is_none(is_paper_against, [parting_run(forth, back)], statement=("rows", forth, forth))

    def test_same(self):
        self.is_one(is_paper_for, [lots(both(mid, split)), ((0, 2), (1, 3, 4))], statement=("same", mid, split))
        # Even, but too coarse or with other sums; not even; no PARTING.
        self.is_none(is_paper_for, [((0,), (1,), (2,), (3,), (4,)), ((0, 1, 2, 3, 4),), ((0,), (1, 2, 3, 4)), ((0, 2), (1, 3)), (), None],
                     statement=("same", mid, split))
        # Any even PARTING with equal sums: the three stages of ends and of what it tells with one more.
        longer = ((((none, none, none), (one, none, none), (one, none, none)),), ((half, half, none),))
        self.is_one(is_paper_for, [((0, 2), (1, 3, 4))], statement=("same", ends, longer))
        self.is_one(is_paper_against, [parting_ladder(mid, ends), one_cell_paper(mid, ends), bush], statement=("same", mid, ends))
        self.is_none(is_paper_against, [parting_ladder(mid, ends), one_cell_paper(mid, ends), bush], statement=("same", mid, split))
        self.is_none(is_paper_for, [lots(both(mid, ends))], statement=("same", mid, ends))

    def test_degree(self):
        space = told_space(both(mid, ends), 1)
        self.is_one(is_paper_for, [space], statement=("degree", mid, ends, 1))
        self.is_none(is_paper_for, [told_space(both(mid, ends), 2), told_space(both(mid, ends), 0), space[::-1], ()], statement=("degree", mid, ends, 1))
        self.is_none(is_paper_for, [told_space(both(mid, ends), 2)], statement=("degree", mid, ends, 2))
        # bush is of the degree 2.
        self.is_one(is_paper_against, [bush, degree_ladder(mid, ends)], statement=("degree", mid, ends, 2))
        self.is_one(is_paper_against, [bush], statement=("degree", mid, ends, 3))
        self.is_none(is_paper_against, [bush], statement=("degree", mid, ends, 1))
        # x' = t * t * t parts them, too, but is of the degree 3.
        cubes = (((((0, 0), one),), (((3, 0), one),)),)
        self.is_none(is_paper_against, [cubes, one_cell_paper(mid, ends)], statement=("degree", mid, ends, 2))
        self.is_one(is_paper_against, [cubes], statement=("degree", mid, ends, 3))

    def test_kind(self):
        statement = ("kind", degree_kind(1, 1), mid, ends)
        rows = tuple(kind_rows(degree_kind(1, 1), both(mid, ends)))
        self.is_one(is_paper_for, [rows], statement=statement)
        self.is_none(is_paper_for, [list(rows), rows + rows, (), rows[0], tuple(kind_rows(all_kind(1), both(mid, ends)))], statement=statement)
        statement = ("kind", time_kind(), mid, ends)
        self.is_none(is_paper_for, [tuple(kind_rows(time_kind(), both(mid, ends)))], statement=statement)
        self.is_one(is_paper_against, [parting_on(time_kind(), mid, ends), (bush, (0, 1), 3)], statement=statement)
        self.is_none(is_paper_against, [(bush, (1, 1), 3), (bush, (0, 1), 2), bush], statement=statement)

    def test_asks(self):
        statement = ("asks", tried, (1, 2), 2)
        right = ask_plan(tried, (1, 2))
        steps = right[1][0][1]
        self.is_one(is_paper_for, [right], statement=statement)
        self.is_one(is_paper_for, [right], statement=("asks", tried, (1, 2), 3))
        self.is_none(is_paper_for, [right], statement=("asks", tried, (1, 2), 1))
        # Other tells, or in another order, one too many; more asks than are let; another routine; of two parts; words that are not let.
        self.is_none(is_paper_for, [right], statement=("asks", tried, (0, 2), 2))
        self.is_none(is_paper_for, [right], statement=("asks", tried, (1,), 2))
        self.is_none(is_paper_for, [right], statement=("asks", tried, (0, 1, 2), 2))
        more = (("ask", "more", 0, "y"),) + steps
        self.is_none(is_paper_for, [(1, (("all", more),)), (1, (("all", steps), ("again", steps))), (2, right[1]), (1, (("all", steps[:-1]),)),
                                    (1, (("all", steps + (("tell", "y"),)),)), (1, (("all", steps[:-2] + steps[-1:]),)), (1, ()), None, (),
                                    (1, (("all", steps[:-4] + steps[-2:] + steps[-4:-2]),)),
                                    (1, (("all", (("either", steps, steps),)),)), (1, (("all", (("solve", (("mix", "s", ()),)),) + steps),))],
                     statement=statement)
        self.is_one(is_paper_for, [(1, (("all", more),))], statement=("asks", tried, (1, 2), 3))
        # Pairs for more ASKS than are let.
        asks = needed_asks(tried, (0, 2))
        pairs_there = tuple((ask, unseen_pair(tried, (0, 2), ask)) for ask in asks)
        self.same(asks, ((0, 0), (1, 0)))
        self.is_one(is_paper_against, [pairs_there], statement=("asks", tried, (0, 2), 1))
        self.is_one(is_paper_against, [pairs_there, pairs_there[:1], pairs_there[1:]], statement=("asks", tried, (0, 2), 0))
        self.is_none(is_paper_against, [pairs_there[:1], pairs_there[::-1], pairs_there[:1] * 2, pairs_there[0], (), None, list(pairs_there),
                                        ((asks[0], pairs_there[1][1]), pairs_there[1]), (((0, 1), pairs_there[0][1]), pairs_there[1]),
                                        (pairs_there[0], (list(asks[1]), pairs_there[1][1])), (pairs_there[0], ((True, 0), pairs_there[1][1])),
                                        (pairs_there[0], (asks[1], pairs_there[1][1], 1)), (pairs_there[0], asks[1])],
                     statement=("asks", tried, (0, 2), 1))
        self.is_none(is_paper_against, [pairs_there], statement=("asks", tried, (0, 2), 2))
        self.is_none(is_paper_against, [()], statement=("asks", (((),), (((),),)), (0,), 0))

    def test_keeps(self):
        self.is_one(is_paper_for, [((0,),)], statement=("keeps", middle, 2, "each"))
        self.is_none(is_paper_for, [((0,),)], statement=("keeps", middle, 3, "each"))
        self.is_one(is_paper_for, [((0,),)], statement=("keeps", plain, 1, "each"))
        halves = told(split_stage(sheet_of(middle), 0, (1, 3)), 0)
        # Of two lots the arrays are 0, too; for degree 1 any even PARTING will do.
        for parting in (((0,), (1,)), ((0, 1),)):
            self.is_one(is_paper_for, [parting], statement=("keeps", halves, 1, "each"))
        self.is_one(is_paper_for, [((0, 1),)], statement=("keeps", halves, 2, "whole"))
        # Weights that cancel out over a lot.
        gone = (((((half, none), (half, none))),), ((one, (-1, 1)),))
        self.is_one(is_paper_for, [((0, 1),)], statement=("keeps", gone, 3, "each"))
        self.is_none(is_paper_for, [((0,), (1,)), ((1, 0),), ((0,),), (), None], statement=("keeps", gone, 3, "each"))
        # Crosswise the array of parts 0 and 1 alone counts, and equal weights do.
        self.is_one(is_paper_for, [((0,),)], statement=("keeps", leap, 2, "crosswise"))
        self.is_none(is_paper_for, [((0,),)], statement=("keeps", leap, 2, "each"))
        self.is_none(is_paper_for, [((0,),)], statement=("keeps", unlike, 1, "whole"))
        self.is_one(is_paper_against, [(turn, (one, none), size, 2)], statement=("keeps", plain, 2, "each"))
        self.is_none(is_paper_against, [losing_change(plain, 2, "each")], statement=("keeps", plain, 2, "each"))

    def test_verdicts(self):
        statements = list(standing())[:6] + list(fallen())[:6]
        things = [paper(statement) for statement in statements]
        self.same(verdicts(tuple(statements), tuple(things)), ["for"] * 6 + ["against"] * 6)
        self.same(verdicts(statements, things), ["for"] * 6 + ["against"] * 6)
        self.same(verdicts(statements, things[6:] + things[:6])[3:9], ["none"] * 6)
        self.same(verdicts([], ()), [])
        # A list is no tuple there.
        self.same(verdicts((("same", mid, split),), ([[0, 2], [1, 3, 4]],)), ["none"])
        for count in (0, 1, 3):
            with self.assertRaises(Unfit):
                verdicts((("same", mid, split),) * 2, (None,) * count)

    def test_arguments_by_name_and_lists(self):
        self.gives(["none", "none"], verdicts, statements=(("same", mid, split), ("rows", forth, back)), things=("x", None))


class Comes(Case):

    def test_the_examples(self):
        facts = (("same", mid, split), ("degree", split, ends, 1))
        self.gives(True, comes_of, statement=("degree", ends, mid, 1), statements=facts)
        self.gives(False, comes_of, statement=("same", mid, ends), statements=facts)

    def test_of_nothing(self):
        for statement, can in ((("rows", forth, forth), True), (("rows", forth, back), False), (("same", mid, mid), True), (("same", mid, split), False),
                               (("degree", mid, mid, 7), True), (("degree", mid, ends, 0), False), (("kind", time_kind(), mid, mid), True),
                               (("kind", time_kind(), mid, split), False), (("asks", tried, (0,), 9), False), (("keeps", nothing, 1, "each"), False),
                               # As they are written: what is the same is not equal.
                               (("rows", forth, forth + ((0, none),)), False)):
            self.gives(can, comes_of, statement=statement, statements=())

    def test_one_of_them(self):
        every = list(standing()) + list(fallen())
        for statement in every:
            self.gives(True, comes_of, statement=statement, statements=(statement,))
            self.same(comes_of(statement, every), True)

    def test_chains_and_the_other_way_about(self):
        tables = [((((none,),),), (((seed, 1),),)) for seed in range(6)]
        rows = [((seed, one),) for seed in range(6)]
        for word, items, made in (("rows", rows, lambda a, b: ("rows", a, b)), ("same", tables, lambda a, b: ("same", a, b)),
                                  ("degree", tables, lambda a, b: ("degree", a, b, 2)), ("kind", tables, lambda a, b: ("kind", time_kind(), a, b))):
            facts = (made(items[2], items[1]), made(items[0], items[1]), made(items[2], items[3]), made(items[5], items[4]))
            for a, b in itertools.product(range(6), repeat=2):
                self.gives((a < 4) == (b < 4), comes_of, statement=made(items[a], items[b]), statements=facts)

    def test_degrees_and_kinds(self):
        a, b, c, d = [((((none,),),), (((seed, 1),),)) for seed in range(4)]
        facts = (("same", a, b), ("degree", b, c, 3), ("degree", c, d, 1), ("kind", time_kind(), c, d))
        for statement, can in ((("degree", a, b, 99), True), (("degree", a, c, 3), True), (("degree", c, a, 0), True), (("degree", a, c, 4), False),
                               (("degree", a, d, 1), True), (("degree", a, d, 2), False), (("degree", d, b, 0), True), (("same", b, c), False),
                               (("kind", time_kind(), a, b), True), (("kind", ((0, ()),), b, a), True),
                               (("kind", time_kind(), d, c), True), (("kind", driven_kind(), d, c), False), (("kind", time_kind(), a, c), False),
                               # A degree is no KIND of it, as it is written.
                               (("kind", degree_kind(1, 1), b, c), False)):
            self.gives(can, comes_of, statement=statement, statements=facts)
        facts = (("kind", time_kind(), b, c), ("same", a, b), ("same", d, c))
        self.gives(True, comes_of, statement=("kind", time_kind(), d, a), statements=facts)
        self.gives(False, comes_of, statement=("degree", d, a, 0), statements=facts)

    def test_asks(self):
        facts = (("asks", tried, (0, 1), 3), ("asks", tried, (2,), 1))
        for tells, number, can in (((0, 1), 3, True), ((0, 1), 4, True), ((0, 1), 2, False), ((2,), 1, True), ((2,), 0, False), ((0,), 3, False),
                                   ((0, 1, 2), 9, False)):
            self.gives(can, comes_of, statement=("asks", tried, tells, number), statements=facts)

    def test_keeps(self):
        a, b, c = [((((none,),),) * 2, (((seed, 1),),) * 2) for seed in range(3)]
        facts = (("keeps", a, 2, "whole"), ("same", b, a), ("same", b, c), ("keeps", c, 3, "each"), ("keeps", c, 2, "crosswise"))
        for degree, way, can in ((1, "whole", True), (2, "whole", True), (3, "whole", False), (1, "each", True), (2, "each", True), (3, "each", True),
                                 (2, "crosswise", True)):
            for table in (a, b, c):
                self.gives(can, comes_of, statement=("keeps", table, degree, way), statements=facts)
        facts = (("keeps", a, 1, "each"), ("degree", a, b, 5), ("kind", all_kind(2), a, b))
        for statement, can in ((("keeps", a, 1, "each"), True), (("keeps", a, 2, "each"), False), (("keeps", b, 1, "each"), False),
                               (("keeps", a, 1, "whole"), False)):
            self.gives(can, comes_of, statement=statement, statements=facts)

    def test_beside_closure(self):
        """By own closure: all that the rules bring, again and again, among few STATEMENTS."""
        tables = [((((none,),),) * 2, (((seed, 1),),) * 2) for seed in range(4)]
        every = [("same", a, b) for a in tables for b in tables]
        every += [("degree", a, b, degree) for a in tables for b in tables for degree in (0, 1)]
        every += [("kind", kind, a, b) for a in tables for b in tables for kind in (time_kind(), all_kind(2))]
        every += [("keeps", a, degree, way) for a in tables for degree in (1, 2, 3) for way in ("each", "whole")]
        for seed in range(8):
            facts = random.Random(seed).sample(every, 6)
            known = [statement for statement in every if statement in facts or statement[0] != "keeps" and self.two(statement)[0] == self.two(statement)[1]]
            grows = True
            while grows:
                further = [statement for statement in every if statement not in known and self.comes(statement, known, tables)]
                known, grows = known + further, bool(further)
            for statement in every:
                self.same(comes_of(statement, tuple(facts)), statement in known)

    def two(self, statement):
        return statement[2:] if statement[0] == "kind" else statement[1:3]

    def comes(self, statement, known, tables):
        word = statement[0]
        if word == "keeps":
            _, table, degree, way = statement
            return any(("keeps", table, more, way) in known for more in (2, 3) if more > degree) or \
                any(("same", other, table) in known and ("keeps", other, degree, way) in known for other in tables)

        def with_two(a, b):
            return ("kind", statement[1], a, b) if word == "kind" else (word, a, b) + statement[3:]
        a, b = self.two(statement)
        return with_two(b, a) in known or any(with_two(a, c) in known and with_two(c, b) in known for c in tables) or \
            word != "same" and ("same", a, b) in known or word == "degree" and (word, a, b, statement[3] + 1) in known


class Bounds(Case):

    def test_greatest(self):
        table, other = some_table(3, 1, 8), repeated(some_table(4, 1, 4), 2)
        for statement in (("same", table, other), ("degree", table, other, 3), ("kind", all_kind(1), table, other), ("keeps", table, 2, "each"),
                          ("asks", some_sheet(3, 4, 16, 8, explicit=True), tuple(range(8)), 3)):
            self.same(verdicts((statement,), (paper(statement),)), ["for" if stands(statement) else "against"])


if __name__ == "__main__":
    unittest.main()
