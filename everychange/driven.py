"""ARRAYS as sums of squares, and damped or turning cells that are driven, point [19]."""

from everychange.changes import has_low_powers, is_change, is_poly, scaled_poly, times_polys
from everychange.engine import is_solution, told_from
from everychange.errors import CanNot
from everychange.kept import array_of
from everychange.least import least_table
from everychange.plain import frozen, is_tuple, unit
from everychange.polys import poly_through
from everychange.ratios import ONE, ZERO, applied, combination, dot, is_fraction, is_less, is_row, minus, over, sign_of
from everychange.ratios import times, whole
from everychange.tables import is_matrix, sheet_of
from everychange.unlike import change_through, one_cell_poly, rates_and_points

DAMP = "damp"
TURN = "turn"
LESS = (-1, 1)


def is_array(thing):
    """Whether thing is an ARRAY."""
    if not isinstance(thing, tuple) or not is_matrix(thing, len(thing)):
        return False
    places = range(len(thing))
    return all([thing[i][j] == thing[j][i] for i in places for j in range(i)])


class Left:
    """What is left of an ARRAY when squares are taken away, one for each pivot."""

    def __init__(self, array):
        self.rows = [list(row) for row in array]
        self.squares = []
        self.pivots = []

    def next_pivot(self):
        """The least place that has not been a pivot and has a FRACTION above 0 on the diagonal, None without."""
        free = [at for at in range(len(self.rows)) if at not in self.pivots]
        return next((at for at in free if sign_of(self.rows[at][at]) > 0), None)

    def takes(self, at):
        """Takes the square away that leaves 0 in the row and the column of this place."""
        much = self.rows[at][at]
        row = tuple([over(x, much) for x in self.rows[at]])
        self.squares.append((much, row))
        self.pivots.append(at)
        self.rows = [[minus(x, times(line[at], y)) for x, y in zip(line, row)] for line in self.rows]

    def below(self):
        """A row that lies below what is left, None if that is 0; there are no FRACTIONS above 0 on its diagonal."""
        many = len(self.rows)
        for at in range(many):
            if self.rows[at][at][0]:
                return [whole(place) for place in unit(at, many)]
        for at in range(many):
            for other in range(at):
                x = self.rows[at][other]
                if x[0]:
                    row = [whole(place) for place in unit(at, many)]
                    row[other] = over(LESS, x)
                    return row
        return None


def _all_taken(array):
    """What is left of the ARRAY when all squares are taken away that can be."""
    left = Left(frozen(array))
    at = left.next_pivot()
    while at is not None:
        left.takes(at)
        at = left.next_pivot()
    return left


def squares(array):
    """SQUARES of the ARRAY; None if there are none."""
    left = _all_taken(array)
    return tuple(left.squares) if left.below() is None else None


def is_squares(array, thing):
    """Whether thing is SQUARES of the ARRAY."""
    if not isinstance(thing, tuple):
        return False
    many = len(array)
    for item in thing:
        if not is_tuple(item, 2) or not is_fraction(item[0]) or sign_of(item[0]) <= 0 or not is_row(item[1], many):
            return False
    columns = [[row[at] for much, row in thing] for at in range(many)]
    weighed = [[times(much, row[at]) for much, row in thing] for at in range(many)]
    return frozen(array) == tuple([tuple([dot(first, column) for column in columns]) for first in weighed])


def _worth_of(array, row):
    """The sum of row[i] times what stands at (i, j) times row[j]."""
    return dot(row, applied(array, row))


def below(array):
    """A row that lies below the ARRAY; None if there is none."""
    left = _all_taken(array)
    row = left.below()
    if row is None:
        return None
    for (_, square), at in reversed(list(zip(left.squares, left.pivots))):
        # The squares taken away are to be 0 at the row: each has 0 at the pivots before its own, 1 at its own.
        row[at] = minus(row[at], dot(square, row))
    return tuple(row)


def is_below(array, thing):
    """Whether thing is a row that lies below the ARRAY."""
    return is_row(thing, len(array)) and sign_of(_worth_of(array, thing)) < 0


def square_of(table):
    """The square of the TABLE itself."""
    parts = range(len(table[0]))
    stages = range(len(table[0][0]))
    arrays = [[array_of(table, w, v) for v in parts] for w in parts]
    return tuple([tuple([arrays[w][v][j][i] for v in parts for i in stages]) for w in parts for j in stages])


def is_drive(thing, many):
    """Whether thing is a DRIVE of so many parts."""
    if not is_tuple(thing, 3) or thing[0] not in (DAMP, TURN) or not is_change(thing[1]):
        return False
    _, change, polys = thing
    return len(change) == many and is_tuple(polys, many) and all([is_poly(poly, len(change[0])) for poly in polys])


def _longer(poly, powers):
    """The POLY times more cells to these powers."""
    return tuple([(tuple(ahead) + powers, (x[0], x[1])) for ahead, x in poly])


def drive_change(drive):
    """The CHANGE that the DRIVE is."""
    word, change, polys = drive
    found = []
    for rates, poly in zip(change, polys):
        back = scaled_poly(poly, LESS)
        if word == DAMP:
            cells = [_longer(rate, (0,)) for rate in rates] + [_longer(times_polys(poly, back), (1,))]
        else:
            cells = [_longer(rate, (0, 0)) for rate in rates] + [_longer(back, (0, 1)), _longer(poly, (1, 0))]
        found.append(tuple(cells))
    return tuple(found)


def _whole_start(word, start):
    """The STATE of all cells from that of the first ones."""
    return frozen(start) + ((ONE,) if word == DAMP else (ONE, ZERO))


def told_size(table, drive, start, points):
    """The size that the TABLE tells with the step 1 by these points."""
    told = told_from(sheet_of(table), drive_change(drive), _whole_start(drive[0], start), ONE, points)[0]
    last = told[len(start):]
    return dot(last, last)


def _first_below(weights):
    """The first pair (part, stage) with a weight below 0, None if there is none."""
    asked = [(part, stage) for part, row in enumerate(weights) for stage, x in enumerate(row) if sign_of(x) < 0]
    return asked[0] if asked else None


def never_grows_driven(table):
    """Whether the TABLE never grows driven."""
    least = least_table(table)
    return _first_below(least[1]) is None and below(square_of(least)) is None


def growth(table):
    """A GROWTH of the TABLE; None if there is none."""
    least = least_table(table)
    stages = len(least[0][0])
    damped = _first_below(least[1])
    if damped is not None:
        # Where a weight is below 0 a little damping alone lets the size grow: by twice the weight times it.
        row = [whole(place) for place in unit(damped[0] * stages + damped[1], len(least[0]) * stages)]
        return _driven_growth(least, DAMP, row)
    row = below(square_of(least))
    # Cells that turn by small angles have these, times i, as rates: the size grows by what makes the row lie below.
    return None if row is None else _driven_growth(least, TURN, row)


def _driven_growth(least, word, row):
    """A GROWTH of a least TABLE whose POLYS, at the stages, are the row times some small number."""
    matrices, stages = least[0], len(least[0][0])
    rates, places = rates_and_points(matrices, [])
    change, share = change_through(places, rates), ONE
    while True:
        share = times(share, (1, 8))
        worths = [[times(share, x) for x in row[at * stages:(at + 1) * stages]] for at in range(len(matrices))]
        drive = (word, change, tuple([one_cell_poly(poly_through(places, own)) for own in worths]))
        points = _points_on(matrices, word, worths)
        if points is not None:
            points = tuple([(place,) + point for place, point in zip(places, points)])
            if is_less(ONE, told_size(least, drive, (ZERO,), points)):
                return (drive, (ZERO,), points)


def _drive_matrix(word, worth):
    """The matrix by which a POLY with this value moves the last cells."""
    if word == DAMP:
        return ((times(LESS, times(worth, worth)),),)
    return ((ZERO, times(LESS, worth)), (worth, ZERO))


def _points_on(matrices, word, worths):
    """The last cells of the points if the POLYS have these values at the stages; None if no solution is found."""
    stages = range(len(matrices[0]))
    cells = range(1 if word == DAMP else 2)
    led = [[_drive_matrix(word, worth) for worth in row] for row in worths]
    columns = []
    for k in stages:
        for cell in cells:
            # What moves by 1 if this cell does so at the stage k: itself, less what the others hang on it.
            columns.append([minus(whole(int(i == k and own == cell)),
                                  dot([matrix[i][k] for matrix in matrices], [row[k][own][cell] for row in led]))
                            for i in stages for own in cells])
    try:
        found = combination(columns, _whole_start(word, ()) * len(stages))
    except CanNot:
        return None
    return [found[at * len(cells):(at + 1) * len(cells)] for at in stages]


def _is_low_drive(drive):
    """Whether the DRIVE has no powers above 24."""
    return has_low_powers(drive[1]) and has_low_powers((drive[2],))


def is_growth(table, thing):
    """Whether thing is a GROWTH of the TABLE."""
    least = least_table(table)
    if not is_tuple(thing, 3) or not is_drive(thing[0], len(least[0])) or not _is_low_drive(thing[0]):
        return False
    drive, start, points = thing
    change = drive_change(drive)
    if not is_row(start, len(drive[1][0])) or not is_tuple(points, len(least[0][0])):
        return False
    if not all([is_row(point, len(change[0])) for point in points]):
        return False
    if not is_solution(sheet_of(least), change, _whole_start(drive[0], start), ONE, points):
        return False
    return is_less(ONE, told_size(least, drive, start, points))
