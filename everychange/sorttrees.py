"""TREES of the sorts of a KIND, one behind another by how many places they have, behind kinds.py.

Rows are lists of whole numbers over the lots: each is the row of a TREE, or of branches laid together, times some
number other than 0.
"""

from heapq import heappop, heappush

from everychange.spans import Span, products_of, sums_by, whole_matrix


class WayRows:
    """Rows of branches that fit one WAY: of those of the first sorts in turn, and of some of the sort whose turn it is.

    A place (turn, own, every) tells how many branches of this sort there are, and how many of all; either number stays
    0 where it is never too great.
    """

    def __init__(self, number, sort, way):
        most, caps = way
        self.number = number
        self.own_sort = sort
        self.turns = [(other, cap) for other, cap in enumerate(caps) if cap != 0]
        known = [cap for _, cap in self.turns if cap is not None]
        if most is not None and len(known) == len(self.turns) and sum(known) <= most:
            most = None
        self.most = most
        self.rows = [[] for _ in self.turns]
        self.spans = {}

    def takes(self, place, row):
        """Takes the row in; whether it is no sum of those that came with as many branches or fewer."""
        if place not in self.spans:
            self.spans[place] = Span()
        if not self.spans[place].takes(row):
            return False
        turn, own, every = place
        cap = self.turns[turn][1] if turn < len(self.turns) else None
        for more in range(own, own + 1 if cap is None else cap + 1):
            for total in range(every, every + 1 if self.most is None else self.most + 1):
                self.spans.setdefault((turn, more, total), Span()).takes(row)
        return True

    def with_one_more(self, place):
        """The place with one branch more of the sort whose turn it is, None if it would be too many."""
        turn, own, every = place
        cap = self.turns[turn][1]
        if own == cap or self.most is not None and every == self.most:
            return None
        return (turn, own if cap is None else own + 1, every if self.most is None else every + 1)


class SortTrees:
    """The TREES: as many of each sort as make all rows of it.

    found has for each of them (sort, places, row, branches), these told by their places in found.
    """

    def __init__(self, kind, matrices):
        self.parts = [part for part, ways in kind]
        self.matrices = [whole_matrix(matrix) for matrix in matrices]
        self.found = []
        self.spans = [Span() for _ in kind]
        self.branch_spans = [Span() for _ in kind]
        self.branches = [[] for _ in kind]
        sorts_and_ways = [(sort, way) for sort, (part, ways) in enumerate(kind) for way in ways]
        self.ways = [WayRows(number, sort, way) for number, (sort, way) in enumerate(sorts_and_ways)]
        self.queue = []
        self.made = 0
        for way in self.ways:
            self.awaits(0, way, (0, 0, 0), [1] * len(matrices[0]), ())

    def awaits(self, places, way, place, row, branches):
        """The row waits till all with fewer places were taken in."""
        self.made += 1
        heappush(self.queue, (places, self.made, way.number, place, row, branches))

    def further(self, most):
        """Finds the next TREE, of at most this many places, None for any; whether there is one."""
        while self.queue:
            if most is not None and self.queue[0][0] >= most:
                return False
            places, _, at, place, row, branches = heappop(self.queue)
            if self.follows(places, self.ways[at], place, row, branches):
                return True
        return False

    def follows(self, places, way, place, row, branches):
        """Takes in a row of branches that fit the WAY; whether it is that of a TREE whose row is new."""
        while way.takes(place, row):
            turn, _, every = place
            if turn == len(way.turns):
                return self.is_new_tree(way.own_sort, places + 1, row, branches)
            way.rows[turn].append((places, place, row, branches))
            for node, other in self.branches[way.turns[turn][0]]:
                self.lays_together(way, way.rows[turn][-1], node, other)
            place = (turn + 1, 0, every)
        return False

    def lays_together(self, way, ahead, node, other):
        """Awaits what comes of a row of branches and one branch more."""
        places, place, row, branches = ahead
        longer = way.with_one_more(place)
        if longer is not None:
            self.awaits(places + self.found[node][1], way, longer, products_of(row, other), branches + (node,))

    def is_new_tree(self, sort, places, row, branches):
        """Takes in a TREE; whether its row is new."""
        if not self.spans[sort].takes(row):
            return False
        node = len(self.found)
        self.found.append((sort, places, row, branches))
        other = sums_by(self.matrices[self.parts[sort]], row)
        if self.branch_spans[sort].takes(other):
            self.branches[sort].append((node, other))
            for way in self.ways:
                for turn, (own, _) in enumerate(way.turns):
                    for ahead in way.rows[turn] if own == sort else []:
                        self.lays_together(way, ahead, node, other)
        return True

    def rows_of(self, sort):
        """The rows of the TREES of this sort that are found."""
        return [row for own, _, row, _ in self.found if own == sort]
