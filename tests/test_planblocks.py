"""Which lines of a PLAN's text can follow one another, beside a plain reading of whole texts."""

import random
import unittest

from everychange.errors import BadLine
from everychange.planlines import plan_by
from everychange.plans import is_plan
from everychange.plansums import FreshNames, Line, steps_of_line
from tests.helpers import Case

HEAD = ["parts 1", "m:"]
OPENERS = ("solve", "either", "else")
NAMES = ("y", "a", "b", "g", "k", "l")
LINES = ["a = y", "y = a", "y = 0", "a = 0", "b = y", "b = 0", "g = a", "g = y + k", "g = y + f0(g)", "b = f0(y)", "k = f0(g)", "k = f0(y + g)",
         "k = f0(1*y + k)", "k = f0(1*y + l)", "l = f0(y + k)", "y = f0(1*y)", "a = f0(1*y)", "a = f0(a + k - k)", "y = f0(2*a - b)", "tell y",
         "tell a", "tell 1*y", "tell (a)"]


def told_by(lines):
    """The line that BadLine tells; 0 where these lines are the text of a PLAN."""
    try:
        made = plan_by("\n".join(lines))
    except BadLine as error:
        return error.line
    return 0 if is_plan(made) else None


def is_let(lines):
    """Whether, as plan_by has it, some text begins with these lines."""
    return told_by(lines) == 0 or told_by(lines) > len(lines)


def read_steps(lines, at, level, fresh):
    """The STEPS from this line on, with so many blocks around them, and the line behind them; by indents alone."""
    steps = []
    while at < len(lines) and lines[at].startswith("  " * level):
        text = lines[at][2 * level:]
        if text == "else":
            break
        at += 1
        if text == "solve":
            inner, at = read_steps(lines, at, level + 1, fresh)
            steps.append(("solve", inner))
        elif text == "either":
            first, at = read_steps(lines, at, level + 1, fresh)
            if at == len(lines) or lines[at] != "  " * level + "else":
                raise BadLine(1)
            second, at = read_steps(lines, at + 1, level + 1, fresh)
            steps.append(("either", first, second))
        else:
            steps.extend(steps_of_line(Line(text, 1), fresh))
    return tuple(steps), at


def plan_of_lines(lines):
    """The PLAN of one routine that these lines are when they are read as a whole; None if they are none."""
    try:
        steps, at = read_steps(lines, 2, 1, FreshNames("\n".join(lines)))
    except BadLine:
        return None
    found = (1, (("m", steps),))
    return found if at == len(lines) and is_plan(found) else None


def some_lines(source, level, in_solve, most):
    """Lines of STEPS, with a way out of each block, whether they are good or not."""
    found = []
    for _ in range(source.randint(1, most)):
        drawn, ahead = source.random(), "  " * level
        if in_solve or level == 4 or drawn > 0.25:
            found.append(ahead + source.choice(LINES))
        elif drawn > 0.12:
            found += [ahead + "solve"] + some_lines(source, level + 1, True, 3)
        else:
            found += [ahead + "either"] + some_lines(source, level + 1, False, 3)
            found += [ahead + "else"] + some_lines(source, level + 1, False, 3)
    return found


def some_start(source):
    """Lines with which, as plan_by has it, some text begins."""
    lines, level = HEAD, 1
    for _ in range(source.randint(1, 10)):
        further = lines + ["  " * level + source.choice(LINES + list(OPENERS) * 3)]
        if is_let(further):
            lines = further
            level += lines[-1].strip() in OPENERS
        level = max(1, level - (source.random() < 0.3))
    return lines


def lines_behind(lines):
    """Lines that may stand behind these ones, the likelier ones first."""
    last = lines[-1].lstrip()
    deepest = max(1, (len(lines[-1]) - len(last)) // 2 + (last in OPENERS))
    ahead = ["  " * level for level in range(deepest, 0, -1)]
    found = [] if last in OPENERS else [blanks + "else" for blanks in ahead]
    for blanks in ahead:
        found += [blanks + "tell " + name for name in NAMES if not last.startswith("tell")]
    for blanks in ahead:
        for name in NAMES:
            others = [other for other in NAMES if other != name]
            found += [blanks + name + form for other in others for form in (" = " + other, " = f0(" + other + ")")]
        found.append(blanks + "z = 0")
    return found


def ended(lines, most, tries):
    """A text that begins with these lines, at most so many more behind them; None if none is found in so many tries."""
    found = told_by(lines)
    if found == 0:
        return lines
    tries[0] -= 1
    if found <= len(lines) or most == 0:
        return None
    for line in lines_behind(lines):
        whole = ended(lines + [line], most - 1, tries) if tries[0] > 0 else None
        if whole is not None:
            return whole
    return None


class Lines(Case):

    def told(self, line, *lines):
        self.same(told_by(HEAD + list(lines)), line, lines)

    def test_beside_a_reading_of_the_whole(self):
        source, good = random.Random(5), 0
        for _ in range(12000):
            lines = HEAD + some_lines(source, 1, False, 6)
            expected = plan_of_lines(lines)
            if expected is None:
                self.assertNotEqual(told_by(lines), 0, lines)
            else:
                self.gives(expected, plan_by, text="\n".join(lines))
                good += 1
                for at in range(len(lines)):
                    self.assertIn(told_by(lines[:at]), (0, at + 1), lines[:at])
        self.assertGreater(good, 200)

    def test_what_is_let_can_be_gone_on_from(self):
        source = random.Random(2)
        for _ in range(150):
            lines = some_start(source)
            found = ended(lines, 14, [5000])
            self.assertIsNotNone(found, lines)
            self.assertIsNotNone(plan_of_lines(found), found)

    def test_a_name_that_is_set_ahead_is_no_point_that_is_left(self):
        for ahead in ("w = f0(1*y)", "w = 2*f0(y + f0(y))", "w = y + f0(1*y) - y"):
            self.told(4, "  " + ahead, "  y = 0")
            self.told(4, "  " + ahead, "  y = 0", "  tell w")
            self.told(0, "  " + ahead, "  tell y", "  y = 0", "  w = 0")
            self.told(0, "  " + ahead, "  a = y", "  y = 0", "  tell a")
        self.told(3, "  y = f0(1*y)")
        self.told(3, "  y = f0(1*y)", "  tell y")
        self.told(5, "  tell 1*y", "  y = f0(1*y)", "  tell y")
        self.told(0, "  tell 1*y", "  y = f0(1*y)", "  y = 0")
        # What is run is at a point that is set ahead; it leads to one that can be used.
        self.same(told_by(["parts 1", "n:", "  tell y", "m:", "  y = n(1*y) over 2", "  tell y"]), 0)
        self.same(told_by(["parts 1", "n:", "  tell y", "m:", "  a = back n(1*y)", "  y = 0", "  a = 0"]), 7)

    def test_what_is_set_ahead_on_a_side(self):
        self.told(5, "  either", "    w = f0(1*y)", "    y = 0")
        self.told(4, "  either", "    y = f0(1*y)", "  else", "    tell y")
        self.told(6, "  either", "    tell y", "  else", "    y = f0(1*y)")
        # The first side has told and lost its points: the second one goes on with those ahead.
        self.told(0, "  either", "    tell 1*y", "    y = f0(1*y)", "  else", "    tell y")
        self.told(0, "  either", "    tell 1*y", "    y = f0(1*y)", "  else", "    tell y", "  z = 0")
        self.told(8, "  either", "    tell 1*y", "    y = f0(1*y)", "  else", "    a = y", "  tell a")
        self.told(7, "  either", "    a = y", "  else", "    tell 1*y", "    y = f0(1*y)")

    def test_what_is_set_ahead_of_and_in_a_solve(self):
        none = ("  tell y", "  w = f0(1*y)", "  y = 0")
        self.told(7, *none, "  solve", "    j = f0(g)", "    g = y")
        self.told(7, *none, "  solve", "    p = w + j", "    j = f0(y)")
        self.told(0, *none, "  solve", "    p = w", "    q = p - w")
        self.told(0, "  tell y", "  w = f0(1*y)", "  solve", "    j = f0(g)", "    g = y + j")
        # Within a solve, too, it stays with its line, and what is asked for still can be set.
        self.told(0, "  solve", "    j = f0(1*y + j)", "    k = f0(g)", "    g = y + j", "  tell g")
        self.told(5, "  solve", "    j = f0(1*y)", "    p = f0(j)", "  tell y")

    def test_a_first_side_that_ends_with_an_either(self):
        inner = ("  either", "    either", "      a = y", "      y = 0", "    else", "      b = y")
        self.told(9, *inner, "  else", "    tell y")
        self.told(9, *inner)
        self.told(0, *inner, "      tell b", "      a = b", "    tell a", "  else", "    tell y")
        self.told(0, *inner, "      a = b", "  else", "    tell y", "    a = y", "  tell a")
        # It has told on each WAY: no point needs to be left.
        inner = ("  either", "    either", "      tell y", "      y = 0", "    else", "      tell y", "      y = 0")
        self.told(0, *inner, "  else", "    tell y")
        self.told(12, *inner, "  else", "    z = 0")


if __name__ == "__main__":
    unittest.main()
