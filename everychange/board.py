"""A board: a SHEET that is written on, with tickets that keep what its tells were, point [24]."""

from everychange.alike import is_alike
from everychange.asks import needed_asks
from everychange.damped import never_grows
from everychange.errors import CanNot, NoPlace, NothingDone, Unfit
from everychange.kept import is_degree_kept
from everychange.least import kept_stages, least_sheet
from everychange.leastpower import order_to, parting_power
from everychange.lots import lot_sheet, lots
from everychange.plain import check_place, frozen
from everychange.ratios import ZERO
from everychange.tables import behind, is_rows_of_parts, put_in_order, scaled


class Written:
    """What stands on a Board at one time; it is never changed."""

    def __init__(self, matrices, tells, numbers, firsts, following):
        self.matrices = matrices
        self.tells = tells
        # The tickets, the TABLES told when they were given, and the next ticket.
        self.numbers = numbers
        self.firsts = firsts
        self.following = following

    def with_sheet(self, matrices, tells):
        """The same tickets beside this SHEET."""
        return Written(matrices, tells, self.numbers, self.firsts, self.following)


def _set(row, at, x):
    """The row with x at this place."""
    return row[:at] + (x,) + row[at + 1:]


def _without(row, at):
    return row[:at] + row[at + 1:]


def _wider(rows):
    """The rows with a 0 more at the end."""
    return tuple([row + (ZERO,) for row in rows])


class Board:
    """A SHEET of many parts, at first without stages and tells."""

    def __init__(self, many):
        self._now = Written(((),) * many, (), (), (), 0)
        self._past = []

    def _becomes(self, written):
        """Does a deed."""
        self._past.append(self._now)
        self._now = written

    def _check_part(self, part):
        check_place(part, len(self._now.matrices))

    def _check_stage(self, stage):
        check_place(stage, len(self._now.matrices[0]))

    def _place_of(self, ticket):
        """The place of the tell of this ticket."""
        if ticket not in self._now.numbers:
            raise NoPlace(ticket)
        return self._now.numbers.index(ticket)

    def sheet(self):
        """The SHEET."""
        return (self._now.matrices, self._now.tells)

    def tickets(self):
        """The list of the tickets, in the order of the tells."""
        return list(self._now.numbers)

    def table(self, ticket):
        """The TABLE of the tell of this ticket as it is now."""
        at = self._place_of(ticket)
        return (self._now.matrices, self._now.tells[at])

    def given(self, ticket):
        """The TABLE of the tell of this ticket as it was when the ticket was given."""
        return self._now.firsts[self._place_of(ticket)]

    def add_stage(self, rows):
        """Adds a stage that hangs so on the others; returns its place."""
        now, rows = self._now, frozen(rows)
        stages = len(now.matrices[0])
        if not is_rows_of_parts(rows, len(now.matrices), stages):
            raise Unfit()
        matrices = tuple([_wider(matrix + (row,)) for matrix, row in zip(now.matrices, rows)])
        self._becomes(now.with_sheet(matrices, tuple([_wider(tell) for tell in now.tells])))
        return stages

    def hang(self, part, stage, other, x):
        """For this part stage hangs on the stage other by x from now on."""
        self._check_part(part)
        self._check_stage(stage)
        self._check_stage(other)
        now = self._now
        matrix = now.matrices[part]
        matrix = _set(matrix, stage, _set(matrix[stage], other, frozen(x)))
        self._becomes(now.with_sheet(_set(now.matrices, part, matrix), now.tells))

    def drop_stage(self, stage):
        """Takes a stage away on which no other one and no tell hangs."""
        self._check_stage(stage)
        now = self._now
        rows = [row for tell in now.tells for row in tell]
        rows.extend([row for matrix in now.matrices for row in _without(matrix, stage)])
        if any([row[stage][0] for row in rows]):
            raise CanNot()
        places = [at for at in range(len(now.matrices[0])) if at != stage]
        matrices, tells = kept_stages(self.sheet(), places)
        self._becomes(now.with_sheet(matrices, tells))

    def add_tell(self, weights):
        """Adds a tell; returns its ticket."""
        now, weights = self._now, frozen(weights)
        if not is_rows_of_parts(weights, len(now.matrices), len(now.matrices[0])):
            raise Unfit()
        ticket = now.following
        firsts = now.firsts + ((now.matrices, weights),)
        self._becomes(Written(now.matrices, now.tells + (weights,), now.numbers + (ticket,), firsts, ticket + 1))
        return ticket

    def weigh(self, ticket, part, stage, x):
        """The weight of this stage becomes x for this tell and part."""
        at = self._place_of(ticket)
        self._check_part(part)
        self._check_stage(stage)
        now = self._now
        tell = now.tells[at]
        tell = _set(tell, part, _set(tell[part], stage, frozen(x)))
        self._becomes(now.with_sheet(now.matrices, _set(now.tells, at, tell)))

    def drop_tell(self, ticket):
        """Takes a tell and its ticket away."""
        at, now = self._place_of(ticket), self._now
        numbers, firsts = _without(now.numbers, at), _without(now.firsts, at)
        self._becomes(Written(now.matrices, _without(now.tells, at), numbers, firsts, now.following))

    def go_behind(self, table):
        """All is done behind a round of the TABLE from now on."""
        now = self._now
        if len(table[0]) != len(now.matrices):
            raise Unfit()
        none = ((ZERO,) * len(now.matrices[0]),) * len(now.matrices)
        matrices, _ = behind(table, (now.matrices, none))
        tells = [behind(table, (now.matrices, tell))[1] for tell in now.tells]
        self._becomes(now.with_sheet(matrices, tuple(tells)))

    def scale(self, x):
        """All FRACTIONS times x."""
        now = self._now
        tells = [scaled((now.matrices, tell), x)[1] for tell in now.tells]
        self._becomes(now.with_sheet(scaled((now.matrices, ()), x)[0], tuple(tells)))

    def make(self, word):
        """Makes the SHEET the least one, that of its lots, or one with its stages in order."""
        sheet = self.sheet()
        if word == "least":
            made = least_sheet(sheet)
        elif word == "lots":
            made = lot_sheet(sheet, lots(sheet))
        elif word == "order":
            made = put_in_order(sheet)
        else:
            raise Unfit()
        self._becomes(self._now.with_sheet(made[0], made[1]))

    def undo(self):
        """All becomes as it was before the last deed that is not undone yet."""
        if not self._past:
            raise NothingDone()
        self._now = self._past.pop()

    def stays(self, ticket):
        """Whether the tell of this ticket tells the same as when it was given."""
        return is_alike(self.table(ticket), self.given(ticket))

    def parted(self, ticket):
        """The least power of the step at which it parts from what was given; None if it stays."""
        return parting_power(self.table(ticket), self.given(ticket))

    def alike(self, ticket, other):
        """Whether the tells of both tickets tell the same now."""
        return is_alike(self.table(ticket), self.table(other))

    def order(self, ticket, most):
        """To which power of the step, at most most, the tell of this ticket tells what all parts together do."""
        return order_to(self.table(ticket), most)

    def keeps(self, ticket, degree, way):
        """Whether the tell of this ticket keeps the degree by this way."""
        return is_degree_kept(self.table(ticket), degree, way)

    def asks(self):
        """The set of the ASKS that all tells together need."""
        return needed_asks(self.sheet(), tuple(range(len(self._now.tells))))

    def grows(self, ticket):
        """Whether the tell of this ticket ever grows on damped changes."""
        return not never_grows(self.table(ticket))
