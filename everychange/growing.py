"""Series that are told one power after another, what stands before it being a POWERSUM."""

from everychange.plain import unit
from everychange.polys import poly_plus, poly_scaled, trimmed
from everychange.ratios import ONE, ZERO, plus, times


def _reach(places, steps, powers):
    """Adds the products on the way to these powers, one factor after another."""
    reached = (0,) * len(powers)
    for cell, power in enumerate(powers):
        for _ in range(power):
            further = reached[:cell] + (reached[cell] + 1,) + reached[cell + 1:]
            if further not in places:
                steps.append((places[reached], cell + 1))
                places[further] = len(places)
            reached = further


def _product_at(left, right, power):
    """What stands before this power in the product of two series."""
    places = []
    for at in range(power + 1):
        for i, x in enumerate(left[at]):
            if x[0]:
                for k, y in enumerate(right[power - at]):
                    places.extend([ZERO] * (i + k + 1 - len(places)))
                    places[i + k] = plus(places[i + k], times(x, y))
    return trimmed(places)


class Growing:
    """Series of cells, and what POLYS make of them.

    Column 0 is the series of 1, then come the cells, then the products that the POLYS need.
    """

    def __init__(self, polys, start):
        cells = len(start)
        self.polys = polys
        self.places = {(0,) * cells: 0}
        for cell in range(cells):
            self.places[unit(cell, cells)] = cell + 1
        self.steps = []
        for poly in polys:
            for powers, _ in poly:
                _reach(self.places, self.steps, powers)
        self.columns = [[]] + [[x] for x in start] + [[] for _ in self.steps]

    def rates(self):
        """What stands before the newest power in each POLY; once for each power."""
        power = len(self.columns[1]) - 1
        behind = len(self.columns) - len(self.steps)
        self.columns[0].append(() if power else (ONE,))
        for at, (left, right) in enumerate(self.steps):
            self.columns[behind + at].append(_product_at(self.columns[left], self.columns[right], power))
        return [self.rate(poly) for poly in self.polys]

    def rate(self, poly):
        """What stands before the newest power in the POLY."""
        worth = ()
        for powers, x in poly:
            worth = poly_plus(worth, poly_scaled(self.columns[self.places[powers]][-1], x))
        return worth

    def further(self, row):
        """Tells what stands before the next power in each cell."""
        for cell, x in enumerate(row):
            self.columns[cell + 1].append(x)
