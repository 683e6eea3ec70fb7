"""TABLES turned back, and WEIGHTS seen through third ones, point [22]."""

from everychange.alike import is_alike
from everychange.errors import CanNot, Unfit
from everychange.ratios import ZERO, combination, minus, plus
from everychange.tables import behind, scaled, undone
from everychange.trees import places_of_tree
from everychange.weights import behind_weights, cut_places, flow_weights, is_weights, over_cuts, trees_and_worths
from everychange.weights import weights_of

HALF = (1, 2)
LESS = (-1, 1)


def turned_table(table):
    """The TABLE turned back."""
    return scaled(undone(table), LESS)


def is_symmetric(table):
    """Whether the TABLE tells the same FOR ALL CHANGES as turned back."""
    return is_alike(table, turned_table(table))


def made_symmetric(table):
    """Half a step of the TABLE, and half a step of it turned back."""
    half = scaled(table, HALF)
    return behind(half, turned_table(half))


class Seen:
    """Two WEIGHTS, and the third through which one is seen as the other, told one number of places after another."""

    def __init__(self, one, other):
        self.trees, self.one = trees_and_worths(one)
        same, self.other = trees_and_worths(other)
        if self.trees != same:
            raise Unfit()
        self.sizes = [places_of_tree(tree) for tree in self.trees]
        self.ways = cut_places(self.trees)
        self.third = [ZERO] * len(self.trees)

    def places_with(self, size):
        """The places of the TREES with this many places."""
        return [at for at, own in enumerate(self.sizes) if own == size]

    def has_nothing(self):
        """Whether both have 0 for all TREES of one place."""
        return not any([self.one[at][0] or self.other[at][0] for at in self.places_with(1)])

    def reach(self):
        """The greatest number of places to which the one is seen as the other; tells the third to one place less."""
        if any([self.one[at] != self.other[at] for at in self.places_with(1)]):
            return 0
        reach = 1
        while reach < self.sizes[-1] and self.tells_third(reach):
            reach += 1
        return reach

    def tells_third(self, size):
        """Tells the third for the TREES with so many places; whether it can be, by those with one place more."""
        unknown = self.places_with(size)
        if size == 1:
            # One of them is free: the third may be the one itself, done some times, and then another third.
            free = [at for at in unknown if self.one[at][0]]
            unknown.remove(free[0])
        longer = self.places_with(size + 1)
        missing = [minus(plus(self.other[at], over_cuts(self.ways[at], self.third, self.other)),
                         plus(self.one[at], over_cuts(self.ways[at], self.one, self.third))) for at in longer]
        columns = [[self.share(self.ways[tree], own) for tree in longer] for own in unknown]
        try:
            found = combination(columns, missing)
        except CanNot:
            return False
        for at, x in zip(unknown, found):
            self.third[at] = x
        return True

    def share(self, ways, own):
        """How often what the third has for the TREE at the place own counts over these cuts."""
        total = ZERO
        for lot, rest in ways:
            if rest == own:
                total = plus(total, self.one[lot[0]])
            if lot == [own]:
                total = minus(total, self.other[rest])
        return total


def seen_to(one, other):
    """The greatest number of places to which one is seen through some WEIGHTS as other."""
    seen = Seen(one, other)
    if seen.has_nothing():
        raise CanNot()
    return seen.reach()


def third_of(one, other):
    """The third through which one is seen as other; None if there is none to all their places."""
    seen = Seen(one, other)
    if seen.has_nothing():
        raise CanNot()
    if seen.reach() < seen.sizes[-1]:
        return None
    return tuple([(tree, x) for tree, x, size in zip(seen.trees, seen.third, seen.sizes) if size < seen.sizes[-1]])


def is_third(one, other, thing):
    """Whether thing is WEIGHTS, to one place less, through which one is seen as other to all their places."""
    seen = Seen(one, other)
    if not is_weights(len(seen.places_with(1)), seen.sizes[-1] - 1, thing):
        return False
    # What it has for TREES with all places does not matter.
    third = thing + tuple([(seen.trees[at], ZERO) for at in seen.places_with(seen.sizes[-1])])
    return behind_weights(one, third) == behind_weights(third, other)


def seen_order(table, most):
    """The greatest number of places, up to most, to which the TABLE is seen through some WEIGHTS as the flow."""
    # Few places show first where it ends: with many the numbers are long.
    for places in range(2, most + 1):
        reach = seen_to(weights_of(table, places), flow_weights(len(table[0]), places))
        if reach < places:
            return reach
    return most
