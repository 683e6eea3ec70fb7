"""The texts of PLANS, point [5]."""

from everychange.errors import BadLine
from everychange.plain import frozen
from everychange.planblocks import RoutineBlocks
from everychange.plans import is_name
from everychange.plansums import FreshNames, Line
from everychange.ratios import ONE, ZERO, minus, ratio_text, sign_of


def _term_text(x, name):
    return name if x == ONE else ratio_text(x) + "*" + name


def _sum_text(terms):
    if not terms:
        return "0"
    text = ""
    for x, name in terms:
        if sign_of(x) < 0:
            text = text + (" - " if text else "-") + _term_text(minus(ZERO, x), name)
        else:
            text = text + (" + " if text else "") + _term_text(x, name)
    return text


def _run_text(title, x, many, point):
    text = title + "(" + point + ")"
    if x != ONE:
        text = text + " over " + ratio_text(x)
    return text if many == 1 else text + " times " + str(many)


def _step_text(step):
    """The line of a STEP that is no block."""
    word = step[0]
    if word == "tell":
        return "tell " + step[1]
    if word == "ask":
        return step[1] + " = f" + str(step[2]) + "(" + step[3] + ")"
    if word == "mix":
        return step[1] + " = " + _sum_text(step[2])
    if word == "call":
        return step[1] + " = " + _run_text(step[2], step[3], step[4], step[5])
    return step[1] + " = back " + _run_text(step[2], step[3], 1, step[4])


def _lines_of(steps, blanks):
    """The lines of STEPS, with these blanks ahead."""
    found, inner = [], blanks + "  "
    for step in steps:
        if step[0] == "solve":
            found.extend([blanks + "solve"] + _lines_of(step[1], inner))
        elif step[0] == "either":
            found.extend([blanks + "either"] + _lines_of(step[1], inner))
            found.extend([blanks + "else"] + _lines_of(step[2], inner))
        else:
            found.append(blanks + _step_text(step))
    return found


def plan_text(plan):
    """The text of the PLAN."""
    parts, routines = frozen(plan)
    lines = ["parts " + str(parts)]
    for title, steps in routines:
        lines.extend([title + ":"] + _lines_of(steps, "  "))
    return "\n".join(lines)


class PlanReader:
    """A text that is read line by line."""

    def __init__(self, text):
        self.fresh = FreshNames(text)
        self.parts = None
        self.titles = []
        self.names = {}
        self.blocks = None
        self.routines = []

    def takes(self, text, number):
        """Takes in a line; BadLine(number) if no text goes on so."""
        if self.parts is None:
            line = Line(text, number)
            line.needs("parts ")
            self.parts = line.digits()
            line.ends()
            return
        taken = self.takes_inner(text, number) if text.startswith(" ") else self.takes_title(text)
        if not taken:
            raise BadLine(number)

    def takes_inner(self, text, number):
        """Takes in a line with blanks ahead; whether some text goes on so."""
        inner = text.lstrip(" ")
        level, odd = divmod(len(text) - len(inner), 2)
        return self.blocks is not None and odd == 0 and self.blocks.takes_line(level - 1, inner, number, self.fresh)

    def takes_title(self, text):
        """Takes in a line that begins a routine; whether some text goes on so."""
        title = text[:-1]
        if not text.endswith(":") or not is_name(title) or title == "y" or not self.ends_routine():
            return False
        if title in self.titles or title in self.names:
            return False
        self.titles.append(title)
        self.blocks = RoutineBlocks(self.parts, list(self.titles))
        return True

    def ends_routine(self):
        """Ends the routine that is read; whether none is, or it can end."""
        if self.blocks is None:
            return self.parts is not None
        if not self.blocks.closes_all():
            return False
        self.routines.append((self.titles[-1], self.blocks.all_steps()))
        for name in self.blocks.routine.ahead:
            self.names[name] = True
        return True


def plan_by(text):
    """The PLAN with this text."""
    # No text has an empty line, so the one behind a line feed at the end is taken in, too.
    lines = text.split("\n")
    reader = PlanReader(text)
    for number, line in enumerate(lines, start=1):
        reader.takes(line, number)
    if not reader.ends_routine() or not reader.routines:
        raise BadLine(len(lines) + 1)
    return (reader.parts, tuple(reader.routines))
