"""PLANS: programs that ask parts at points and mix the answers, point [5]."""

from everychange.plain import frozen, is_count, is_number, is_tuple
from everychange.ratios import ONE, ZERO, is_fraction, plus

LETTERS = "abcdefghijklmnopqrstuvwxyz"
FIGURES = "0123456789"
LONGEST = 12
KEPT_WORDS = ("parts", "solve", "either", "else", "tell", "over", "times", "back")
POINT = "point"
RISE = "rise"


def is_name(thing):
    """Whether thing is a NAME."""
    if not isinstance(thing, str) or not 1 <= len(thing) <= LONGEST or thing in KEPT_WORDS:
        return False
    if thing[0] not in LETTERS or not all([sign in LETTERS or sign in FIGURES for sign in thing]):
        return False
    return thing[0] != "f" or len(thing) == 1 or not all([sign in FIGURES for sign in thing[1:]])


def _is_share(thing):
    return is_fraction(thing) and thing != ZERO


def _is_filled(thing):
    """Whether thing is a tuple, not ()."""
    return isinstance(thing, tuple) and len(thing) > 0


def _holds(kinds, name, kind):
    """Whether the name is set, and of this kind."""
    return isinstance(name, str) and kinds.get(name) == kind


def mix_kind(terms, kinds):
    """The kind of what these terms come to; None if they are none or come to nothing that is let."""
    if not isinstance(terms, tuple):
        return None
    total = ZERO
    for term in terms:
        if not is_tuple(term, 2) or not _is_share(term[0]) or not isinstance(term[1], str) or term[1] not in kinds:
            return None
        if kinds[term[1]] == POINT:
            total = plus(total, term[0])
    if total == ONE:
        return POINT
    return RISE if total == ZERO else None


def common_kinds(kinds, others):
    """The names that both sides of an either leave as the same kind."""
    return {name: kinds[name] for name in kinds if others.get(name) == kinds[name]}


class Routine:
    """What one routine is looked at with: what it can call, and all names that were set so far, on whatever side.

    Its methods return the kinds of the names that are set behind STEPS, None if the STEPS are none.
    """

    def __init__(self, parts, titles, earlier):
        self.parts = parts
        self.titles = titles
        self.earlier = earlier
        self.ahead = {"y": True}

    def with_name(self, kinds, name, kind):
        """The kinds with name set to this one."""
        if kind is None or not is_name(name) or name in self.titles:
            return None
        self.ahead[name] = True
        further = {own: kinds[own] for own in kinds}
        further[name] = kind
        return further

    def behind(self, steps, kinds):
        """Behind STEPS, one after another."""
        for step in steps:
            kinds = self.behind_step(step, kinds) if _is_filled(step) else None
            if kinds is None:
                return None
        return kinds

    def behind_step(self, step, kinds):
        """Behind one STEP."""
        word, many = step[0], len(step)
        if word == "ask" and many == 4 and self.is_part(step[2]) and _holds(kinds, step[3], POINT):
            return self.with_name(kinds, step[1], RISE)
        if word == "mix" and many == 3:
            return self.with_name(kinds, step[1], mix_kind(step[2], kinds))
        if word == "solve" and many == 2 and _is_filled(step[1]):
            return self.behind_solve(step[1], kinds)
        if word == "call" and many == 6 and is_number(step[4]) and step[4] >= 1:
            return self.behind_run(step[1], step[2], step[3], step[5], kinds)
        if word == "back" and many == 5:
            return self.behind_run(step[1], step[2], step[3], step[4], kinds)
        if word == "either" and many == 3 and _is_filled(step[1]) and _is_filled(step[2]):
            return self.behind_either(step[1], step[2], kinds)
        return kinds if word == "tell" and many == 2 and _holds(kinds, step[1], POINT) else None

    def is_part(self, thing):
        """Whether thing is one of the parts."""
        return is_count(thing) and thing < self.parts

    def behind_run(self, name, title, x, point, kinds):
        """Behind a call or a back."""
        if not isinstance(title, str) or title not in self.earlier or not _is_share(x):
            return None
        return self.with_name(kinds, name, POINT) if _holds(kinds, point, POINT) else None

    def behind_either(self, first, second, kinds):
        """Behind an either: what both sides leave as the same kind."""
        first_kinds = self.behind(first, kinds)
        second_kinds = self.behind(second, kinds)
        if first_kinds is None or second_kinds is None:
            return None
        return common_kinds(first_kinds, second_kinds)

    def behind_solve(self, steps, kinds):
        """Behind a solve: its asks hold in all its mixes, and are at points as these are at its end."""
        for step in steps:
            if not is_tuple(step, 4) and not is_tuple(step, 3) or step[0] != ("ask" if len(step) == 4 else "mix"):
                return None
            if not is_name(step[1]) or step[1] in self.ahead:
                return None
            self.ahead[step[1]] = True
        asks, mixes = [step for step in steps if len(step) == 4], [step for step in steps if len(step) == 3]
        for _, name, part, _ in asks:
            kinds = self.with_name(kinds, name, RISE) if self.is_part(part) else None
            if kinds is None:
                return None
        kinds = self.behind(mixes, kinds)
        if kinds is None or not all([_holds(kinds, point, POINT) for _, name, part, point in asks]):
            return None
        return kinds


def _always_tells(steps):
    """Whether on each WAY a tell is met."""
    return any([step[0] == "tell" or step[0] == "either" and _always_tells(step[1]) and _always_tells(step[2])
                for step in steps])


def is_plan(thing):
    """Whether thing is a PLAN."""
    if not is_tuple(thing, 2) or not is_number(thing[0]) or thing[0] < 1 or not _is_filled(thing[1]):
        return False
    parts, routines = thing
    if not all([is_tuple(routine, 2) and is_name(routine[0]) and routine[0] != "y" for routine in routines]):
        return False
    titles = [title for title, steps in routines]
    for at, (title, steps) in enumerate(routines):
        if title in titles[:at] or not isinstance(steps, tuple):
            return False
        if Routine(parts, titles, titles[:at]).behind(steps, {"y": POINT}) is None or not _always_tells(steps):
            return False
    return True


def _joined_ways(ways_ahead, further):
    return [way + more for way in ways_ahead for more in further]


class Ways:
    """The WAYS of routines, each found when it is first asked for."""

    def __init__(self, routines):
        self.routines = {title: steps for title, steps in routines}
        self.found = {}

    def of_routine(self, title):
        """The WAYS of one run."""
        if title not in self.found:
            self.found[title] = self.of_steps(self.routines[title])
        return self.found[title]

    def of_steps(self, steps):
        """The WAYS of STEPS, one after another."""
        found = [()]
        for step in steps:
            if step[0] == "either":
                sides = [(True,) + way for way in self.of_steps(step[1])]
                found = _joined_ways(found, sides + [(False,) + way for way in self.of_steps(step[2])])
            elif step[0] == "back":
                found = _joined_ways(found, self.of_routine(step[2]))
            elif step[0] == "call":
                for _ in range(step[4]):
                    found = _joined_ways(found, self.of_routine(step[2]))
        return found


def unsorted_ways(plan):
    """The list of all WAYS."""
    _, routines = frozen(plan)
    return Ways(routines).of_routine(routines[-1][0])


def ways(plan):
    """The ascending list of all WAYS."""
    return sorted(unsorted_ways(plan))
