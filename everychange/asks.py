"""ASKS: which parts a SHEET must ask at which lots, point [16]."""

from everychange.errors import CanNot
from everychange.lots import lot_sheet, lots
from everychange.plain import check_place
from everychange.tables import rounds


def _check_tells(sheet, tells):
    for number in tells:
        check_place(number, len(sheet[1]))


def _hung_on(rows):
    """The ascending list of the ASKS at which the rows, one for each part, are not 0."""
    return sorted([(lot, part) for part, row in enumerate(rows) for lot, x in enumerate(row) if x[0]])


class Asks:
    """The ASKS on which each lot and each tell of a SHEET hangs straight."""

    def __init__(self, sheet):
        matrices, tells = lot_sheet(sheet, lots(sheet))
        self.of_lots = [_hung_on([matrix[lot] for matrix in matrices]) for lot in range(len(matrices[0]))]
        self.of_tells = [_hung_on(tell) for tell in tells]

    def needed(self, tells):
        """The ascending tuple of the ASKS that tells need."""
        reached = set()
        waiting = [ask for number in tells for ask in self.of_tells[number]]
        while waiting:
            ask = waiting.pop()
            if ask not in reached:
                reached.add(ask)
                waiting.extend(self.of_lots[ask[0]])
        return tuple(sorted(reached))

    def next_ones(self, left, done):
        """Of the ASKS left, ascending, those whose lot hangs on ASKS done alone."""
        return [ask for ask in left if all([other in done for other in self.of_lots[ask[0]]])]


def needed_asks(sheet, tells):
    """The set of the ASKS that tells need."""
    _check_tells(sheet, tells)
    return Asks(sheet).needed(tells)


def further_asks(sheet, tells, known):
    """The set of the ASKS that tells need and known does not."""
    _check_tells(sheet, tells)
    _check_tells(sheet, known)
    asks = Asks(sheet)
    before = asks.needed(known)
    return tuple([ask for ask in asks.needed(tells) if ask not in before])


def free_tells(sheet, known):
    """The set of the numbers of the tells that need no ASKS but those that known needs."""
    _check_tells(sheet, known)
    asks = Asks(sheet)
    before = asks.needed(known)
    return tuple([number for number in range(len(sheet[1])) if all([ask in before for ask in asks.needed((number,))])])


def path_asks(sheet, path):
    """The list of how many ASKS each set of tells needs that none before it needs."""
    for tells in path:
        _check_tells(sheet, tells)
    asks = Asks(sheet)
    before, found = {}, []
    for tells in path:
        known = len(before)
        for ask in asks.needed(tells):
            before[ask] = True
        found.append(len(before) - known)
    return found


def round_asks(table, n):
    """How many ASKS each of n rounds needs that none before it needs."""
    return path_asks(rounds(table, n), [(number,) for number in range(n)])


def ask_order(sheet, tells):
    """The list of the needed ASKS, always the least one left whose lot hangs on ASKS in the list alone."""
    left, done = list(needed_asks(sheet, tells)), []
    asks = Asks(sheet)
    while left:
        following = asks.next_ones(left, done)
        if not following:
            raise CanNot()
        done.append(following[0])
        left.remove(following[0])
    return done


def ask_turns(sheet, tells):
    """The list of sets of the needed ASKS, each with all that are left and can be asked behind those before."""
    left, done, turns = needed_asks(sheet, tells), [], []
    asks = Asks(sheet)
    while left:
        following = asks.next_ones(left, done)
        if not following:
            raise CanNot()
        turns.append(tuple(following))
        done.extend(following)
        left = [ask for ask in left if ask not in following]
    return turns
