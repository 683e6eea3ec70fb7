"""What rounds of a PLAN are: the SHEET of their stages and tells, point [5]."""

from everychange.errors import CanNot, Unfit
from everychange.plain import frozen
from everychange.plans import unsorted_ways
from everychange.ratios import ONE, ZERO, minus, plus, times
from everychange.tables import hung_on


class Held:
    """What a name was given at one time: what it adds up, and which stage it is, None till it is asked.

    What it adds up are asks, a dict from pairs (part, stage) to FRACTIONS; a point is this from where its run started.
    """

    def __init__(self, asks):
        self.sums = asks
        self.stage = None


def _summed(shares, many_asks):
    """The asks that come of these, each times its share."""
    total = {}
    for share, asks in zip(shares, many_asks):
        for key, x in asks.items():
            total[key] = plus(total.get(key, ZERO), times(share, x))
    return total


class Round:
    """Runs of routines, one behind another, on one WAY; the stages are those that were asked."""

    def __init__(self, routines):
        self.routines = {title: steps for title, steps in routines}
        self.stages = []
        self.choices = []

    def run(self, title, x, start):
        """The asks of each tell of a run with x times the step."""
        tells = []
        self.follow(self.routines[title], x, {"y": Held(start)}, tells)
        return tells

    def follow(self, steps, x, names, tells):
        """Runs STEPS: sets names, adds to tells."""
        for step in steps:
            word = step[0]
            if word == "solve":
                self.solve(step[1], x, names)
            elif word == "either":
                self.follow(step[1] if self.choices.pop(0) else step[2], x, names, tells)
            elif word == "tell":
                tells.append(names[step[1]].sums)
            else:
                names[step[1]] = Held(self.worth_of(step, x, names))

    def worth_of(self, step, x, names):
        """What an ask, a mix, a call or a back gives its name."""
        word = step[0]
        if word == "ask":
            return {(step[2], self.stage_of(names[step[3]])): x}
        if word == "mix":
            return _summed([share for share, name in step[2]], [names[name].sums for share, name in step[2]])
        if word == "call":
            asks = names[step[5]].sums
            for _ in range(step[4]):
                asks = self.run(step[2], times(x, step[3]), asks)[-1]
            return asks
        return self.led_back(step[2], times(x, step[3]), names[step[4]].sums)

    def stage_of(self, held):
        """Which stage this point is."""
        if held.stage is None:
            held.stage = len(self.stages)
            self.stages.append(held)
        return held.stage

    def solve(self, steps, x, names):
        """Runs a solve: its points are named first, asked then, and told last."""
        asks, mixes = [step for step in steps if step[0] == "ask"], [step for step in steps if step[0] == "mix"]
        for _, name, _ in mixes:
            names[name] = Held(None)
        for step in asks:
            names[step[1]] = Held(self.worth_of(step, x, names))
        for step in mixes:
            held = names[step[1]]
            held.sums = self.worth_of(step, x, names)

    def led_back(self, title, x, point):
        """The asks of the point from which a run leads to point."""
        before = len(self.stages)
        led = self.run(title, x, {})[-1]
        start = _summed((ONE, minus(ZERO, ONE)), (point, led))
        # The points of this run were told from where it started: now it is known from where that is.
        for held in self.stages[before:]:
            held.sums = _summed((ONE, ONE), (start, held.sums))
        return start


def _check_ways(plan, ways):
    known = unsorted_ways(plan)
    for way in ways:
        if not all([choice is True or choice is False for choice in way]) or way not in known:
            raise Unfit()


def check_way(plan, way):
    """Raises Unfit if this is no WAY of the PLAN."""
    _check_ways(plan, frozen((way,)))


def _laid_out(asks, part, many):
    """The row of these asks of the part over many stages."""
    return tuple([asks.get((part, stage), ZERO) for stage in range(many)])


def plan_sheet(plan, ways):
    """The SHEET of the stages and tells of rounds on these WAYS, one behind another."""
    parts, routines = frozen(plan)
    _check_ways(plan, frozen(ways))
    rounds, tells = Round(routines), []
    for way in frozen(ways):
        rounds.choices = list(way)
        tells.extend(rounds.run(routines[-1][0], ONE, tells[-1] if tells else {}))
    many = len(rounds.stages)
    matrices = [tuple([_laid_out(held.sums, part, many) for held in rounds.stages]) for part in range(parts)]
    return (tuple(matrices), tuple([tuple([_laid_out(asks, part, many) for part in range(parts)]) for asks in tells]))


def plan_table(plan, way):
    """The TABLE of the last tell of a round on this WAY."""
    matrices, tells = plan_sheet(plan, (way,))
    return (matrices, tells[-1])


def point_name(stage):
    """The name of the point of a stage."""
    return "g" + str(stage)


def rise_name(part, stage):
    """The name of the rise of a part at a stage."""
    return "k" + str(stage) + "x" + str(part)


def terms_of(rows):
    """The terms of y and of what rows, one for each part, have at the rises."""
    rises = [(x, rise_name(part, stage)) for part, row in enumerate(rows) for stage, x in enumerate(row) if x[0]]
    return tuple([(ONE, "y")] + rises)


def _asks_at(matrices, tells, stage):
    """An ask for each part for which a stage or a tell hangs on this stage, of part 0 if there is none."""
    parts = [part for part, matrix in enumerate(matrices)
             if any([row[stage][0] for row in list(matrix) + [tell[part] for tell in tells]])]
    return [("ask", rise_name(part, stage), part, point_name(stage)) for part in parts or [0]]


def plan_of(sheet):
    """A PLAN of one routine whose round has this SHEET."""
    matrices, tells = frozen(sheet)
    if not tells:
        raise CanNot()
    stages = range(len(matrices[0]))
    points = [("mix", point_name(stage), terms_of([matrix[stage] for matrix in matrices])) for stage in stages]
    asks = [_asks_at(matrices, tells, stage) for stage in stages]
    steps = [step for stage in stages for step in [points[stage]] + asks[stage]]
    if any([other >= stage for stage, others in enumerate(hung_on(matrices)) for other in others]):
        # The asks stand ahead: the stages come in their order.
        steps = [("solve", tuple([step for own in asks for step in own] + points))]
    for number, tell in enumerate(tells):
        name = "t" + str(number)
        steps.extend([("mix", name, terms_of(tell)), ("tell", name)])
    return (len(matrices), (("all", tuple(steps)),))
