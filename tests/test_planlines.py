import unittest

from everychange.errors import BadLine
from everychange.planlines import plan_by, plan_text
from everychange.planruns import plan_of, plan_sheet, plan_table
from everychange.plans import is_plan
from tests.helpers import HALF, ONE, Case
from tests.test_planruns import SomePlan
from tests.test_plans import EULER, FORK, MIDDLE, every, good_steps, heun, plan
from tests.test_tables import some_sheet

i, half, m = ONE, HALF, (-1, 1)
BIG = 10 ** 40 - 1
HEUN = "parts 1\nheun:\n  k = f0(y)\n  tell y + 1/2*k + 1/2*f0(y + k)"
ONE_TELL = "parts 1\nm:\n  tell y"


def steps_of(*lines, ahead="one:\n  tell y\n", parts=2):
    """The STEPS of the last routine with these lines."""
    return plan_by(f"parts {parts}\n{ahead}main:\n" + "\n".join("  " + line for line in lines))[1][-1][1]


class Texts(Case):

    def test_the_examples(self):
        self.gives((("mix", "t0", ((i, "y"), (i, "k"))), ("ask", "t1", 0, "t0")),
                   lambda text: plan_by(text)[1][0][1][1:3], text=HEUN)
        self.gives(heun, plan_by, text=HEUN)
        self.same(plan_table(plan_by(HEUN), ())[1], ((half, half),))
        text = "parts 1\nm:\n  solve\n    g = y + 1/2*f0(g)\n  tell 2*g - y"
        self.same(plan_sheet(plan_by(text), ((),)), (((((1, 2),),),), ((((1, 1),),),)))

    def test_plan_text(self):
        self.gives("parts 1\nheun:\n  k = f0(y)\n  t0 = y + k\n  t1 = f0(t0)\n  t2 = y + 1/2*k + 1/2*t1\n  tell t2", plan_text,
                   plan=heun)
        self.gives("\n".join(["parts 2", "one:", "  k = f0(y)", "  z = y + k", "  tell z",
                              "two:", "  a = one(y) over 1/2 times 2", "  b = f1(a)", "  c = a + 1/2*b", "  tell c",
                              "whole:", "  a = back two(y) over -1", "  either", "    d = two(a) over 2/3", "    tell d",
                              "  else", "    solve", "      e = f1(g)", "      g = a - e", "    d = g", "  r = 0",
                              "  r = d + 7/2*r", "  tell r"]), plan_text, plan=every)
        steps = (("mix", "a", ((m, "y"), ((2, 1), "y"))), ("mix", "a", (((-1, 3), "a"), ((4, 3), "y"))),
                 ("call", "b", "one", i, 1, "y"), ("call", "b", "one", i, 3, "b"), ("call", "b", "one", m, 1, "b"),
                 ("back", "b", "one", i, "b"), ("back", "b", "one", (2, 3), "b"), ("tell", "b"))
        lines = plan_text(plan(*steps)).split("\n")[6:]
        self.assertEqual(lines, ["  a = -y + 2*y", "  a = -1/3*a + 4/3*y", "  b = one(y)", "  b = one(b) times 3",
                                 "  b = one(b) over -1", "  b = back one(b)", "  b = back one(b) over 2/3", "  tell b"])

    def there_and_back(self, made):
        self.assertTrue(is_plan(made))
        self.gives(made, plan_by, text=plan_text(made))

    def test_there_and_back(self):
        for made in (heun, every, (1, (("m", MIDDLE),)), (3, (("m", FORK),)), (1, (("f", EULER), ("m", (("tell", "y"),))))):
            self.there_and_back(made)
        for steps in good_steps():
            self.there_and_back(plan(*steps))
        for seed in range(150):
            self.there_and_back(SomePlan(seed, 1 + seed % 4, seed % 2 == 1).plan)
        for seed in range(30):
            self.there_and_back(plan_of(some_sheet(seed, 1 + seed % 4, seed % 6, 1 + seed % 3)))

    def test_fractions_of_40_figures(self):
        x, rest = (BIG, BIG - 1), (-1, BIG - 1)
        self.there_and_back(plan(("mix", "a", ((x, "y"), (rest, "y"))), ("call", "b", "one", (-BIG, 7), BIG, "a"), ("tell", "b")))
        # More figures have a text, which is none to read.
        x, rest = (BIG + 1, BIG), (-1, BIG)
        text = plan_text(plan(("mix", "a", ((x, "y"), (rest, "y"))), ("tell", "a")))
        self.assertIn("a = 1" + "0" * 40 + "/" + "9" * 40 + "*y - 1/" + "9" * 40 + "*y", text)
        self.same(self.raises(BadLine, plan_by, text=text).line, 7)

    def test_within_either_within_either(self):
        inner = ("either", (("solve", MIDDLE[0][1]), ("tell", "g")), (("either", (("tell", "y"),), (("mix", "y", ()),)),))
        self.there_and_back(plan(("mix", "z", ((i, "y"),)), ("either", (inner,), (("tell", "y"),)), ("tell", "z")))

    def test_names_t0_of_a_plan(self):
        self.there_and_back(plan(("ask", "t1", 0, "y"), ("mix", "t0", ((i, "y"), (i, "t1"))), ("tell", "t0")))


class Steps(Case):
    """Texts by the STEPS that come of them."""

    def test_sums(self):
        for text, terms in (
                ("y", ((i, "y"),)), ("-y + 2*y", ((m, "y"), ((2, 1), "y"))), ("y - y", ((i, "y"), (m, "y"))), ("0", ()), ("(0)", ()),
                ("((0))", ()), ("y + 3*(0)", ((i, "y"),)), ("1*y", ((i, "y"),)), ("y/1", ((i, "y"),)), ("2/4*y + y/2", ((half, "y"),) * 2),
                ("6/4*y/3 + 0002/04*y", ((half, "y"),) * 2), ("(y)", ((i, "y"),)), ("-(y - 2*y)", ((m, "y"), ((2, 1), "y"))),
                ("2*(y - 1/2*(y - y/3))/3 + 5/9*y", (((2, 3), "y"), ((-1, 3), "y"), ((1, 9), "y"), ((5, 9), "y"))),
                ("y + y - y", ((i, "y"), (i, "y"), (m, "y"))), ("-(-(y))", ((i, "y"),)), ("-(0) + y", ((i, "y"),))):
            self.same(steps_of("a = " + text, "tell y")[0], ("mix", "a", terms), text)

    def test_asks(self):
        self.same(steps_of("a = f1(y)", "tell y")[0], ("ask", "a", 1, "y"))
        for text, x in (("1*f1(y)", i), ("f1(y)/1", i), ("(f1(y))", i), ("-f1(y)", m), ("2/4*f1(y)", half), ("-(f1(y)/2)", (-1, 2))):
            self.same(steps_of("a = " + text, "tell y")[:2], (("ask", "t0", 1, "y"), ("mix", "a", ((x, "t0"),))), text)
        self.same(plan_by("parts 12\nm:\n  a = f11(y)\n  tell y")[1][0][1][0], ("ask", "a", 11, "y"))

    def test_what_is_no_name_is_set_ahead(self):
        for text in ("(y)", "1*y", "y/1"):
            self.same(steps_of("tell " + text), (("mix", "t0", ((i, "y"),)), ("tell", "t0")))
            self.same(steps_of(f"a = f0({text})", "tell y")[:2], (("mix", "t0", ((i, "y"),)), ("ask", "a", 0, "t0")))
            self.same(steps_of(f"a = one({text}) over 3/6 times 2", "tell y")[:2],
                      (("mix", "t0", ((i, "y"),)), ("call", "a", "one", half, 2, "t0")))
            self.same(steps_of(f"a = back one({text}) over -3", "tell y")[:2],
                      (("mix", "t0", ((i, "y"),)), ("back", "a", "one", (-3, 1), "t0")))

    def test_inner_ones_first_left_to_right(self):
        found = steps_of("k = f0(y)", "a = y + f0(y + k) - f1(y + 1/2*f0(y + k + f1(y))) + (2*f0(y))", "tell y")
        self.same(found[1:-1], (
            ("mix", "t0", ((i, "y"), (i, "k"))), ("ask", "t1", 0, "t0"),
            ("ask", "t2", 1, "y"), ("mix", "t3", ((i, "y"), (i, "k"), (i, "t2"))), ("ask", "t4", 0, "t3"),
            ("mix", "t5", ((i, "y"), (half, "t4"))), ("ask", "t6", 1, "t5"), ("ask", "t7", 0, "y"),
            ("mix", "a", ((i, "y"), (i, "t1"), (m, "t6"), ((2, 1), "t7")))))

    def test_numbers_go_through_the_whole_text(self):
        text = "parts 1\nt1:\n  tell y + f0(y)\nm:\n  t4 = t1(y + f0(y))\n  either\n    tell (y)\n  else\n    tell t4 + f0(y)"
        made = plan_by(text)
        self.assertTrue(is_plan(made))
        self.same(made[1], (
            ("t1", (("ask", "t0", 0, "y"), ("mix", "t2", ((i, "y"), (i, "t0"))), ("tell", "t2"))),
            ("m", (("ask", "t3", 0, "y"), ("mix", "t5", ((i, "y"), (i, "t3"))), ("call", "t4", "t1", i, 1, "t5"),
                   ("either", (("mix", "t6", ((i, "y"),)), ("tell", "t6")),
                    (("ask", "t7", 0, "y"), ("mix", "t8", ((i, "t4"), (i, "t7"))), ("tell", "t8")))))))
        # Words that come only behind are left out, too; digits behind a slash are no such word.
        self.same(steps_of("tell (y)", "t0 = y/1", "t2 = y")[:2], (("mix", "t1", ((i, "y"),)), ("tell", "t1")))
        self.same(steps_of("t01 = y", "t = y/1", "tell (y)")[-2:], (("mix", "t0", ((i, "y"),)), ("tell", "t0")))

    def test_solve(self):
        self.same(steps_of("solve", "  g = y + 1/2*f0(g)", "tell g")[0],
                  ("solve", (("ask", "t0", 0, "g"), ("mix", "g", ((i, "y"), (half, "t0"))))))
        self.same(steps_of("solve", "  k = f0(y + 1/2*k + l)", "  l = f1(y + k)", "tell y")[0],
                  ("solve", (("mix", "t0", ((i, "y"), (half, "k"), (i, "l"))), ("ask", "k", 0, "t0"),
                             ("mix", "t1", ((i, "y"), (i, "k"))), ("ask", "l", 1, "t1"))))

    def test_needless_zeros(self):
        self.same(plan_by("parts 007\nm:\n  tell y")[0], 7)
        self.same(steps_of("a = one(y) over 02/004 times 03", "tell a")[0], ("call", "a", "one", half, 3, "y"))
        self.same(plan_by("parts " + "0" * 39 + "1\nm:\n  tell y")[0], 1)

    def test_20_brackets(self):
        for depth in (1, 19, 20):
            self.same(steps_of("a = " + "(" * depth + "y" + ")" * depth, "tell a")[0], ("mix", "a", ((i, "y"),)))
            asks = "f0(y + " * (depth - 1) + "f0(y)" + ")" * (depth - 1)
            self.assertEqual(len(steps_of("a = y + " + asks, "tell a")), 2 * depth + 1)
            self.same(steps_of("a = one(" + "(" * (depth - 1) + "y" + ")" * depth, "tell a")[-2:-1],
                      (("call", "a", "one", i, 1, "y" if depth == 1 else "t0"),))
        for text in ("a = " + "(" * 21 + "y" + ")" * 21, "a = " + "f0(y + " * 20 + "f0(y)" + ")" * 20,
                     "a = one(" + "(" * 20 + "y" + ")" * 21, "tell " + "(" * 21 + "y" + ")" * 21):
            text = "parts 1\none:\n  tell y\nm:\n  " + text + "\n  tell y"
            self.same(self.raises(BadLine, plan_by, text=text).line, 5)
        # Side by side they are not deep.
        self.assertTrue(steps_of("a = y + " + " + ".join(["(f0(y))"] * 60), "tell a"))


class BadLines(Case):

    def bad(self, line, text):
        self.same(self.raises(BadLine, plan_by, text=text).line, line, text)

    def test_no_text_at_all(self):
        self.bad(1, "")
        self.bad(1, "\n\n")

    def test_empty_lines(self):
        # Wherever it stands, an empty line is counted as the line that it is, and no text has one.
        lines = HEUN.split("\n")
        for at in range(len(lines) + 1):
            for more in (1, 2):
                self.bad(at + 1, "\n".join(lines[:at] + [""] * more + lines[at:]))
        for line, text in ((2, "parts 1\n\nm:\n\n  tell z\n"), (4, ONE_TELL + "\n"), (4, ONE_TELL + "\n\n"), (4, ONE_TELL + "\n\n x"),
                           (4, ONE_TELL + "\n\nn:\n  tell y"), (5, "parts 1\nm:\n  either\n    tell y\n\n  else\n    tell y"),
                           (4, "parts 1\nm:\n  solve\n\n    g = y\n  tell y"), (2, "parts 1\n \nm:\n  tell y"),
                           (3, "parts 1\nm:\n  tell z\n"), (4, ONE_TELL + "\n  ")):
            self.bad(line, text)

    def test_first_line(self):
        for line in ("m:", "parts", "parts ", "parts 0", "parts 00", "parts -1", "parts 1 ", " parts 1", "parts  1", "Parts 1", "parts 1:",
                     "parts one", "parts 1.5", "parts \u0661", "parts " + "1" * 41, "parts 1\r", "parts\t1", "  tell y", "parts 2/1"):
            self.bad(1, line + "\nm:\n  tell y")

    def test_titles(self):
        for line in ("m", "m: ", "m :", ":", "y:", "parts:", "M:", "f0:", "f12:", "else:", "1m:", "m_:", "abcdefghijklm:", "  m:", "\u00e9:",
                     "m::", "parts 1", "  tell y", " m:"):
            self.bad(2, "parts 1\n" + line + "\n  tell y")
        self.bad(4, ONE_TELL + "\nm:\n  tell y")
        # A title that is a name within an earlier routine, a name that is a title.
        self.bad(5, "parts 1\nm:\n  a = y\n  tell y\na:\n  tell y")
        self.bad(5, ONE_TELL + "\nn:\n  m = y\n  tell y")
        self.bad(3, "parts 1\nm:\n  m = y\n  tell y")
        self.bad(5, ONE_TELL + "\nn:\n  n = f0(y)\n  tell y")
        self.bad(6, "parts 1\nm:\n  solve\n    a = f0(y)\n  tell y\na:\n  tell y")

    def test_lines_of_routines(self):
        for line in ("tell", "tell ", "tell  y", "tell y ", "tell k", "tell 0", "tell y + ", "tell y+y", "tell y - 0*y", "tell + y", "tell - y",
                     "tell --y", "tell y + -y", "tell 1/0*y", "tell 0/1*y", "tell y/0", "tell y/1/1", "tell y/1*2", "tell y*2", "tell 2y",
                     "tell 2 * y", "tell 1*1*y", "tell (y", "tell y)", "tell ()", "tell (y))", "tell ( y)", "tell 0 + y", "tell y + 0", "tell -0",
                     "tell 00", "tell 2*0 + y", "tell y - z", "tell 2*y", "tell f0", "tell f0(y)", "tell f2(y)", "tell f(y)", "tell one(y)",
                     "tell y - f00(y)", "tell y + f01(y)", "tell y + f0 (y)", "tell y + f0()", "tell y + f0", "tell y + f0[y]", "tell y + fy(y)",
                     "TELL y", "tell Y", "tell y;", "tell 1.5*y - 0.5*y", "tell " + "1" * 41 + "*y - 2*y", "tell y + 1/" + "1" * 41 + "*y",
                     "k", "k =", "k = ", "k=y", "k = y y", "k  = y", " = y", "k = = y", "= y", "k + y", "2 = y", "K = y", "f0 = y", "one = y",
                     "main = y", "solve = y", "tell = y", "over = y", "parts = y", "back = y", "times = y", "either = y", "else = y",
                     "abcdefghijklm = y", "k = 2*y", "k = y + y", "k = 1/2*y", "k = q", "k = 2*k", "k = f0(k)", "k = f0(0)", "k = f0(y - y)",
                     "k = f0(2*y)", "k = f2(y)", "k = f9(y)", "k = f" + "9" * 41 + "(y)", "k = f" + "1" * 5000 + "(y)", "k = f" + "1" * 5000, "k = tell y", "k = solve", "k = y over 2", "k = f0(y) over 2",
                     "k = one", "k = one()", "k = one(0)", "k = one(y", "k = one(y))", "k = one(q)", "k = main(y)", "k = none(y)", "k = y(y)",
                     "k = one(y) over", "k = one(y) over ", "k = one(y) over 0", "k = one(y) over - 1", "k = one(y) over --1", "k = one(y) over 1/0",
                     "k = one(y) over y", "k = one(y) times", "k = one(y) times 0", "k = one(y) times -1", "k = one(y) times 1/2",
                     "k = one(y) times 2 over 1", "k = one(y) over 1 over 1", "k = one(y) times 1 times 1", "k = one(y)  times 2",
                     "k = 2*one(y)", "k = one(y) + y", "k = (one(y))", "k = -one(y)", "k = one(y)/1", "k = back", "k = back one", "k = back y",
                     "k = back one(0)", "k = back main(y)", "k = back q(y)", "k = back f0(y)", "k = back one(y) times 2", "k = back  one(y)",
                     "k = back one(y) over 0", "k = backone(y)", "k = one(y) over " + "1" * 41, "k = one(y) times " + "1" * 41, "else",
                     "solve ", "either ", "solve y", "either:", "else ", "x", "\ttell y", "tell y\r"):
            self.bad(5, "parts 2\none:\n  tell y\nmain:\n  " + line + "\n  tell y")

    def test_blanks_ahead(self):
        for line in (" tell y", "   tell y", "    tell y", "tell y", "  " * 9 + "tell y", "  "):
            self.bad(3, "parts 1\nm:\n" + line + "\n  tell y")
        for line in (" tell y", "  tell y", "   tell y", "     tell y", "      tell y", "n:"):
            self.bad(4, "parts 1\nm:\n  either\n" + line + "\n  else\n    tell y")
        self.bad(3, "parts 1\nm:\nn:\n  tell y")

    def test_blocks(self):
        head = "parts 1\nm:\n"
        self.bad(5, head + "  either\n    tell y\n  tell y")
        self.bad(5, head + "  either\n    tell y\n    else\n    tell y")
        self.bad(5, head + "  either\n    tell y\nn:\n  tell y")
        self.bad(6, head + "  either\n    tell y\n  else\n  tell y")
        self.bad(6, head + "  either\n    tell y\n  else\n  else\n    tell y")
        self.bad(7, head + "  either\n    tell y\n  else\n    tell y\n  else\n    tell y")
        self.bad(4, head + "  tell y\n  else\n    tell y")
        self.bad(4, head + "  solve\n  else\n    tell y")
        self.bad(4, head + "  solve\n  tell y")
        self.bad(5, head + "  solve\n    k = f0(y)\n  else")
        for line in ("tell y", "solve", "either", "else", "a = m(y)", "a = back n(y)"):
            self.bad(6, ONE_TELL + "\nn:\n  solve\n    " + line + "\n  tell y")
        # An either within the first side.
        self.assertTrue(plan_by(head + "  either\n    either\n      tell y\n    else\n      tell y\n  else\n    tell y"))
        self.bad(6, head + "  either\n    either\n      tell y\n  else\n    tell y")

    def test_names_of_the_wrong_kind(self):
        self.bad(4, "parts 1\nm:\n  k = f0(y)\n  tell k")
        self.bad(4, "parts 1\nm:\n  k = f0(y)\n  z = k - 2*y")
        self.bad(4, "parts 1\nm:\n  k = f0(y)\n  l = f0(k)")
        self.bad(7, ONE_TELL + "\nn:\n  k = f0(y)\n  solve\n    l = f0(k)\n  tell y")
        # Behind an either a name of two kinds is not set.
        self.bad(7, "parts 1\nm:\n  either\n    a = y\n  else\n    a = 0\n  tell a")
        self.bad(7, "parts 1\nm:\n  either\n    a = y\n  else\n    b = y\n  c = b")

    def test_where_no_point_is_left(self):
        head = "parts 1\nm:\n"
        self.bad(3, head + "  y = f0(y)\n  tell y")
        self.bad(3, head + "  y = 0")
        self.bad(4, head + "  either\n    y = 0\n  else\n    tell y")
        self.bad(6, head + "  either\n    tell y\n  else\n    y = 0")
        self.bad(5, head + "  a = y\n  y = 0\n  a = 0\n  tell y")
        self.bad(6, head + "  either\n    a = y\n  else\n    y = 0\n  tell y")
        self.assertTrue(plan_by(head + "  tell y\n  y = 0\n  a = 2*y"))
        self.assertTrue(plan_by(head + "  either\n    tell y\n    y = 0\n  else\n    tell y"))
        # The first side has not told: behind the either a point must be left.
        self.bad(7, head + "  either\n    a = y\n  else\n    tell y\n    y = 0\n  tell a")
        self.assertTrue(plan_by(head + "  either\n    a = y\n  else\n    tell y\n    a = y\n    y = 0\n  tell a"))
        # So, too, on a side within the second side.
        self.bad(8, head + "  either\n    a = y\n  else\n    either\n      tell y\n      y = 0\n    else\n      tell y")
        self.bad(14, head + "  either\n    a = y\n  else\n    either\n      tell y\n    else\n      tell y\n      b = y\n      a = y\n"
                 "      y = 0\n      b = 0\n      a = 0\n")
        self.assertTrue(plan_by(head + "  either\n    tell y\n  else\n    either\n      tell y\n      y = 0\n    else\n      tell y"))
        # No name is left to both sides: it is too late behind them.
        self.bad(8, head + "  either\n    a = y\n    y = 0\n  else\n    b = y\n  b = 0")
        self.bad(8, head + "  either\n    a = y\n    y = 0\n  else\n    b = y\nn:\n  tell y")

    def test_asks_of_a_solve_at_what_nothing_can_set(self):
        head = "parts 1\nm:\n  tell y\n"
        none = head + "  y = 0\n  solve\n"
        self.bad(6, none + "    k = f0(g)\n    g = y")
        self.bad(6, none + "    k = f0(y)")
        self.bad(6, none + "    g = y + k\n    k = f0(g)")
        self.assertTrue(plan_by(none + "    a = y\n    b = 0"))
        self.assertTrue(plan_by(head + "  a = y\n  y = 0\n  solve\n    k = f0(g)\n    g = a + k"))
        # At a name that is set ahead as a rise, on one side alone, or is a title; at one that a mix needs as a rise.
        self.bad(6, head + "  a = 0\n  solve\n    k = f0(a)")
        self.bad(9, head + "  either\n    a = y\n  else\n    b = y\n  solve\n    k = f0(a)")
        self.bad(5, head + "  solve\n    k = f0(m)")
        self.bad(6, head + "  solve\n    a = y + g\n    k = f0(g)")
        self.bad(5, head + "  solve\n    k = f0(k)")
        self.bad(6, head + "  solve\n    k = f0(g)\n    g = f0(y)")
        self.bad(6, head + "  solve\n    k = f0(g)\n    g = k")
        self.bad(6, head + "  solve\n    k = f0(g)\n    l = f0(k)")
        self.bad(6, head + "  solve\n    k = f0(g)\n    p = y + g")
        # A mix needs what another mix sets, what it sets itself, what is no name to be set.
        self.bad(6, head + "  solve\n    p = y + q\n    q = y")
        self.bad(5, head + "  solve\n    p = y + p")
        self.bad(5, head + "  solve\n    p = y + m")
        self.bad(9, head + "  either\n    a = 0\n  else\n    b = y\n  solve\n    p = y + a")
        self.bad(5, head + "  solve\n    g = y + 1/2*f0(g + 1/2*f0(y))")
        # Names that are set twice, or ahead.
        self.bad(6, head + "  solve\n    k = f0(y)\n    k = f0(y)")
        self.bad(6, head + "  solve\n    k = f0(y)\n    k = y")
        self.bad(5, head + "  solve\n    y = f0(y)")
        self.bad(6, head + "  k = f0(y)\n  solve\n    k = f0(y)")
        self.bad(5, head + "  solve\n    k = f1(y)")
        # What is asked or needed is not set when the solve ends.
        self.bad(6, head + "  solve\n    k = f0(g)\n  tell y")
        self.bad(6, head + "  solve\n    p = y + k\nn:\n  tell y")
        self.bad(7, head + "  solve\n    k = f0(g)\n    l = f0(g)")

    def test_a_text_that_ends_too_early(self):
        for line, text in ((2, "parts 1"), (2, "parts 1\n"), (3, "parts 1\nm:"), (4, "parts 1\nm:\n  a = y"), (4, "parts 1\nm:\n  either"),
                           (5, "parts 1\nm:\n  either\n    tell y"), (6, "parts 1\nm:\n  either\n    tell y\n  else"),
                           (7, "parts 1\nm:\n  either\n    tell y\n  else\n    a = y"), (5, ONE_TELL + "\nn:"),
                           (5, ONE_TELL + "\n  solve"), (6, ONE_TELL + "\n  solve\n    k = f0(g)\n"),
                           (7, "parts 1\nm:\n  either\n    a = y\n  else\n    tell y")):
            self.bad(line, text)
        # A way on which nothing is told, before the next routine begins.
        self.bad(4, "parts 1\nm:\n  a = y\nn:\n  tell y")
        self.bad(7, "parts 1\nm:\n  either\n    tell y\n  else\n    a = y\nn:\n  tell y")

    def test_the_last_line(self):
        lines = HEUN.split("\n")
        for at in range(len(lines)):
            self.bad(at + 1, "\n".join(lines[:at] + ["?"] + lines[at + 1:]))
            self.bad(at + 1, "\n".join(lines[:at]) if at < 4 else "\n".join(lines[:at] + ["  tell q"]))
        self.bad(5, HEUN + "\n?")
        self.bad(5, HEUN + "\n  tell k")

    def test_the_first_lines_of_a_text(self):
        for seed in range(40):
            lines = plan_text(SomePlan(seed, 2, True).plan).split("\n")
            for at in range(len(lines)):
                try:
                    plan_by("\n".join(lines[:at]))
                except BadLine as e:
                    self.assertEqual(e.line, at + 1, lines[:at])


if __name__ == "__main__":
    unittest.main()
