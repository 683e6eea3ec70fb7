"""PLANS that ask no more than they must, and CHANGES that part only where an ASK is left out, point [16]."""

from everychange.asks import ask_order
from everychange.changes import is_change, part_rates, plus_polys
from everychange.engine import points_of, run_of
from everychange.errors import CanNot, Unfit
from everychange.least import kept_stages
from everychange.lots import lot_sheet, lots
from everychange.plain import frozen, is_tuple
from everychange.planruns import check_way, plan_sheet, point_name, rise_name, terms_of
from everychange.plans import ways
from everychange.polys import poly_through, poly_value
from everychange.ratios import ONE, ZERO, dot, minus, plus
from everychange.tables import beside
from everychange.unlike import forms_apart, never_zero, one_cell_poly

MOST_POWER = 100


class Asked:
    """The lots that tells need, as the stages of a SHEET with these tells alone, and their ASKS in order."""

    def __init__(self, sheet, tells):
        self.queue = ask_order(sheet, tells)
        matrices, every = lot_sheet(sheet, lots(sheet))
        needed = sorted(set([lot for lot, part in self.queue]))
        self.small = kept_stages((matrices, [every[number] for number in tells]), needed)
        self.pairs = [(needed.index(lot), part) for lot, part in self.queue]

    def place_of(self, ask):
        """The place of the ASK in the order; Unfit if it is not needed."""
        if ask not in self.queue:
            raise Unfit()
        return self.queue.index(ask)

    def log(self, change, start, h):
        """The pairs (part, STATE) that are asked of the CHANGE, in order."""
        points = points_of(self.small, change, start, h)
        return [(part, points[lot]) for lot, part in self.pairs]

    def form(self, rows):
        """What rows, one for each part, have at the ASKS, in order."""
        return [rows[part][lot] for lot, part in self.pairs]

    def lot_form(self, lot):
        """What the lot has at the ASKS, in order."""
        return self.form([matrix[lot] for matrix in self.small[0]])


def ask_plan(sheet, tells):
    """A PLAN of one routine that asks the needed ASKS alone, and tells what tells do."""
    asked = Asked(sheet, tells)
    if not tells:
        raise CanNot()
    matrices, own = asked.small
    steps, named = [], {}
    for lot, part in asked.pairs:
        if lot not in named:
            steps.append(("mix", point_name(lot), terms_of([matrix[lot] for matrix in matrices])))
            named[lot] = True
        steps.append(("ask", rise_name(part, lot), part, point_name(lot)))
    for number, tell in enumerate(own):
        name = "t" + str(number)
        steps.extend([("mix", name, terms_of(tell)), ("tell", name)])
    return (len(matrices), (("all", tuple(steps)),))


class Counted:
    """Counts the asks of runs of routines on one WAY."""

    def __init__(self, routines, way):
        self.routines = {title: steps for title, steps in routines}
        self.choices = list(way)

    def of_steps(self, steps):
        """The asks of STEPS."""
        total = 0
        for step in steps:
            word = step[0]
            if word == "ask":
                total += 1
            elif word == "solve":
                total += self.of_steps(step[1])
            elif word == "either":
                total += self.of_steps(step[1] if self.choices.pop(0) else step[2])
            elif word == "call" or word == "back":
                for _ in range(step[4] if word == "call" else 1):
                    total += self.of_steps(self.routines[step[2]])
        return total


def asks_made(plan, way):
    """How many asks a round of the PLAN on this WAY runs."""
    check_way(plan, way)
    routines = frozen(plan[1])
    return Counted(routines, way).of_steps(routines[-1][1])


def ways_sheet(plan):
    """The SHEETS of one round on each WAY, beside one another."""
    sheets = [plan_sheet(plan, (way,)) for way in ways(plan)]
    found = sheets[0]
    for sheet in sheets[1:]:
        found = beside(found, sheet)
    return found


def ask_log(sheet, tells, change, start, h):
    """The list of the pairs (part, STATE) that are asked of the CHANGE, in the order of ask_order."""
    return Asked(sheet, tells).log(change, start, h)


def _changed_asks(asked, own):
    """The places of the ASKS whose rates are other ones if that of the ASK at the place own is."""
    changed = [own]
    for at in range(own + 1, len(asked.pairs)):
        form = asked.lot_form(asked.pairs[at][0])
        if any([form[place][0] for place in changed]):
            changed.append(at)
    return changed


def _at_places(form, places):
    """The form with 0 at all other places."""
    return [x if at in places else ZERO for at, x in enumerate(form)]


class Unseen:
    """Two CHANGES of one cell that are alike at all that is asked of the first one but for one ASK.

    The rates of the first one, and by how much those of the second one are more, are numbers for which all points are
    unlike, and some tell: forms are over the first ones, then over the second ones.
    """

    def __init__(self, asked, own):
        self.inner = asked
        self.own = own
        none = [ZERO] * len(asked.pairs)
        changed = _changed_asks(asked, own)
        self.moved = sorted(set([asked.pairs[at][0] for at in changed if at != own]))
        lots_there = range(len(asked.small[0][0]))
        first = [asked.lot_form(lot) + none for lot in lots_there]
        second = [asked.lot_form(lot) + _at_places(asked.lot_form(lot), changed) for lot in self.moved]
        told = [_at_places(asked.form(tell), changed) for tell in asked.small[1]]
        parted = [none + form for form in told if any([x[0] for x in form])]
        numbers = never_zero(forms_apart(first + second) + parted[:1], 2 * len(none))
        self.paces, self.more = numbers[:len(none)], numbers[len(none):]
        self.points = [dot(form, numbers) for form in first]
        self.moved_points = [dot(form, numbers) for form in second]

    def part_polys(self, part):
        """The POLYS of this part in the first CHANGE and in the second one."""
        asks = [(lot, at) for at, (lot, own) in enumerate(self.inner.pairs) if own == part]
        first = poly_through([self.points[lot] for lot, at in asks], [self.paces[at] for lot, at in asks])
        places, worths = list(self.points), [ZERO] * len(self.points)
        for lot, at in asks:
            if at == self.own:
                worths[lot] = self.more[at]
            if lot in self.moved:
                place = self.moved_points[self.moved.index(lot)]
                places.append(place)
                worths.append(minus(plus(self.paces[at], self.more[at]), poly_value(first, place)))
        poly = one_cell_poly(first)
        return poly, plus_polys(poly, one_cell_poly(poly_through(places, worths)))


def unseen_pair(sheet, tells, ask):
    """A pair of CHANGES of one cell that some of tells part, alike at what is asked of the first one but for ask."""
    asked = Asked(sheet, tells)
    unseen = Unseen(asked, asked.place_of(frozen(ask)))
    pairs = [unseen.part_polys(part) for part in range(len(sheet[0]))]
    return (tuple([(first,) for first, second in pairs]), tuple([(second,) for first, second in pairs]))


def _is_low_change(thing, many):
    """Whether thing is a CHANGE of many parts and one cell without too great powers."""
    if not is_change(thing) or len(thing) != many or len(thing[0]) != 1:
        return False
    return all([powers[0] <= MOST_POWER for part in thing for poly in part for powers, x in poly])


def is_unseen_pair(sheet, tells, ask, thing):
    """Whether thing is such a pair."""
    asked = Asked(sheet, tells)
    own, many, start = asked.place_of(frozen(ask)), len(sheet[0]), (ZERO,)
    if not is_tuple(thing, 2) or not _is_low_change(thing[0], many) or not _is_low_change(thing[1], many):
        return False
    first, second = thing
    log = asked.log(first, start, ONE)
    states = {lot: state for (lot, part), (_, state) in zip(asked.pairs, log)}
    if len(set(list(states.values()))) < len(states):
        return False
    for at, (part, state) in enumerate(log):
        if at != own and part_rates(first, part, state) != part_rates(second, part, state):
            return False
    return run_of(asked.small, first, start, ONE) != run_of(asked.small, second, start, ONE)
