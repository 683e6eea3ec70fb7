"""Routines that are read line by line: which lines can follow, and which STEPS they are, behind planlines.py."""

from everychange.plans import POINT, RISE, Routine, common_kinds, mix_kind
from everychange.plansums import Line, steps_of_line

ROUTINE = "routine"
SOLVE = "solve"
FIRST = "first"
SECOND = "second"


class Block:
    """STEPS that stand below one another: of a routine, of a solve, of the first or the second side of an either."""

    def __init__(self, kind, kinds, has_told, waits):
        self.kind = kind
        self.kinds = kinds
        # Whether each WAY that leads here has told; whether a WAY that has not waits for a point at the end.
        self.has_told = has_told
        self.waits = waits
        self.steps = []
        self.first = None
        # Of a solve: names at which it asks, which a mix must still set; names in its mixes, which asks must.
        self.points = {}
        self.rises = {}

    def has_point(self):
        """Whether some name that a line can use holds a point; without one none can be made any more."""
        return any([kind == POINT for kind in self.kinds.values()])

    def can_go_on(self):
        """Whether each WAY that has not told still can."""
        return self.has_point() or self.has_told and not self.waits


class RoutineBlocks:
    """One routine. Its methods take lines in, and return whether some PLAN goes on so."""

    def __init__(self, parts, titles):
        self.routine = Routine(parts, titles, titles[:-1])
        self.stack = [Block(ROUTINE, {"y": POINT}, False, False)]

    def takes_line(self, level, text, number, fresh):
        """Takes in a line, which has this many blocks around it."""
        if text == "else":
            can = self.takes_else(level)
        else:
            can = self.closes_to(level) and self.takes_step(text, number, fresh)
        return can and self.stack[-1].can_go_on()

    def closes_all(self):
        """Closes all blocks; whether the routine can end here."""
        return self.closes_to(0) and self.stack[0].has_told

    def all_steps(self):
        """The STEPS of the routine."""
        return tuple(self.stack[0].steps)

    def closes_to(self, level):
        """Closes blocks till this many are around what comes next."""
        while len(self.stack) > level + 1:
            if not self.closes():
                return False
        return len(self.stack) == level + 1

    def closes(self):
        """Closes the innermost block."""
        block = self.stack.pop()
        around = self.stack[-1]
        if not block.steps or block.kind == FIRST or block.points or block.rises:
            return False
        if block.kind == SOLVE:
            around.kinds = block.kinds
            around.steps.append(("solve", tuple(block.steps)))
            return True
        around.kinds = common_kinds(block.first.kinds, block.kinds)
        around.has_told = block.first.has_told and block.has_told
        around.steps.append(("either", tuple(block.first.steps), tuple(block.steps)))
        return True

    def takes_else(self, level):
        """Goes on with the second side of an either."""
        if not self.closes_to(level + 1) or self.stack[-1].kind != FIRST or not self.stack[-1].steps:
            return False
        # An either that ends the first side may have left it without a point.
        if not self.stack[-1].can_go_on():
            return False
        first = self.stack.pop()
        around = self.stack[-1]
        # If a WAY has not told on the first side, it must do so behind the either, at a point that both sides leave.
        second = Block(SECOND, around.kinds, around.has_told, around.waits or not first.has_told)
        second.first = first
        self.stack.append(second)
        return True

    def takes_step(self, text, number, fresh):
        """Goes on with a STEP, or all those that come of its line, or with a block."""
        block = self.stack[-1]
        if text == "solve" or text == "either":
            kind = SOLVE if text == "solve" else FIRST
            self.stack.append(Block(kind, block.kinds, block.has_told, block.waits))
            return block.kind != SOLVE
        for step in steps_of_line(Line(text, number), fresh):
            taken = self.takes_in_solve(block, step) if block.kind == SOLVE else self.takes_plain(block, step)
            if not taken:
                return False
            block.steps.append(step)
        # What was set ahead was for this line alone: no later line can name it.
        block.kinds = {name: block.kinds[name] for name in block.kinds if not fresh.is_made(name)}
        return True

    def takes_plain(self, block, step):
        """Goes on with a STEP that is no block and stands in no solve."""
        kinds = self.routine.behind_step(step, block.kinds)
        if kinds is None:
            return False
        block.kinds = kinds
        block.has_told = block.has_told or step[0] == "tell"
        return True

    def takes_in_solve(self, block, step):
        """Goes on with a STEP of a solve."""
        if step[0] == "ask":
            return self.takes_ask(block, step[1], step[2], step[3])
        return step[0] == "mix" and self.takes_mix(block, step[1], step[2])

    def takes_ask(self, block, name, part, point):
        """Goes on with an ask of a solve."""
        if not self.routine.is_part(part) or name in block.points or not self.sets(block, name, RISE):
            return False
        block.rises.pop(name, None)
        if point not in block.kinds:
            block.points[point] = True
            return point not in block.rises and self.can_be_set(block, point)
        return block.kinds[point] == POINT

    def takes_mix(self, block, name, terms):
        """Goes on with a mix of a solve."""
        # What is not set yet must be asked for later on in this solve.
        unset = [own for _, own in terms if own not in block.kinds]
        if name in block.rises or name in unset:
            return False
        kinds = {own: block.kinds[own] for own in block.kinds}
        for own in unset:
            if own in block.points or not self.can_be_set(block, own):
                return False
            kinds[own] = RISE
            block.rises[own] = True
        kind = mix_kind(terms, kinds)
        if name in block.points and kind != POINT:
            return False
        block.points.pop(name, None)
        return self.sets(block, name, kind)

    def can_be_set(self, block, name):
        """Whether a later STEP of this solve can set the name, at or to a point."""
        return self.is_unused(name) and name not in self.routine.titles and block.has_point()

    def is_unused(self, name):
        """Whether no STEP so far has set the name, on whatever side."""
        return name not in self.routine.ahead

    def sets(self, block, name, kind):
        """Sets a name in a solve."""
        kinds = self.routine.with_name(block.kinds, name, kind) if self.is_unused(name) else None
        if kinds is None:
            return False
        block.kinds = kinds
        return True
