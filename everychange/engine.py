"""The engine: SHEETS and ROWS run on CHANGES, exactly or as series in the step, point [7]."""

from everychange.changes import is_ladder, rates_by, whole_change
from everychange.errors import CanNot
from everychange.growing import Growing
from everychange.plain import frozen
from everychange.polys import poly_integral, poly_plus, poly_scaled, poly_value, trimmed
from everychange.ratios import ONE, ZERO, plus, times
from everychange.tables import stage_order


def _asks_of(rows):
    """The pairs (part, stage) at which the rows, one for each part, are not 0."""
    return [(part, stage) for part, row in enumerate(rows) for stage, x in enumerate(row) if x[0]]


def _rows_of(matrices, stage):
    """The rows of this stage, one for each part."""
    return [matrix[stage] for matrix in matrices]


def _moved(start, h, rows, rates):
    """start moved by h times the rates, told for each ask (part, stage), as often as rows say."""
    asks = _asks_of(rows)
    state = []
    for cell, worth in enumerate(start):
        for part, stage in asks:
            worth = plus(worth, times(h, times(rows[part][stage], rates[(part, stage)][cell])))
        state.append(worth)
    return tuple(state)


def _ask(rates, change, points, rows):
    """Adds to rates what rows ask for."""
    for part, stage in _asks_of(rows):
        if (part, stage) not in rates:
            rates[(part, stage)] = rates_by(change[part], points[stage])


def _explicit_points(matrices, order, change, start, h):
    points, rates = [None] * len(order), {}
    for stage in order:
        rows = _rows_of(matrices, stage)
        _ask(rates, change, points, rows)
        points[stage] = _moved(start, h, rows, rates)
    return points


def _ladder_points(matrices, change, start, h):
    """The points of a ladder: a cell of all points is told by its earlier cells."""
    stages = range(len(matrices[0]))
    points = [()] * len(stages)
    for cell in range(len(start)):
        rest = (ZERO,) * (len(start) - cell)
        rates = {}
        for part, polys in enumerate(change):
            for stage in stages:
                rates[(part, stage)] = rates_by(polys[cell:cell + 1], points[stage] + rest)
        points = [points[stage] + _moved(start[cell:cell + 1], h, _rows_of(matrices, stage), rates)
                  for stage in stages]
    return points


def points_of(sheet, change, start, h):
    """The list of the points of a round."""
    (matrices, _), change, start = frozen(sheet), frozen(change), frozen(start)
    order = stage_order(matrices)
    if len(order) == len(matrices[0]):
        return _explicit_points(matrices, order, change, start, h)
    if not is_ladder(change):
        raise CanNot()
    return _ladder_points(matrices, change, start, h)


def run_of(sheet, change, start, h):
    """The list of what a round tells."""
    return told_from(sheet, change, start, h, points_of(sheet, change, start, h))


def is_solution(sheet, change, start, h, points):
    """Whether the points fulfil all that is said of them."""
    (matrices, _), change, start, points = frozen(sheet), frozen(change), frozen(start), frozen(points)
    if len(points) != len(matrices[0]):
        return False
    rates = {}
    for stage, point in enumerate(points):
        rows = _rows_of(matrices, stage)
        _ask(rates, change, points, rows)
        if _moved(start, h, rows, rates) != point:
            return False
    return True


def told_from(sheet, change, start, h, points):
    """The list of what a round tells that has these points."""
    (_, tells), change, start, points = frozen(sheet), frozen(change), frozen(start), frozen(points)
    rates = {}
    for tell in tells:
        _ask(rates, change, points, tell)
    return [_moved(start, h, tell, rates) for tell in tells]


def _constant(x):
    return trimmed((x,))


def _growing_stages(matrices, tells, change, start):
    """For each stage the pair (parts that are asked there, what grows)."""
    rows = [_rows_of(matrices, stage) for stage in range(len(matrices[0]))] + list(tells)
    asks = [ask for own in rows for ask in _asks_of(own)]
    found = []
    for stage in range(len(matrices[0])):
        parts = [part for part in range(len(change)) if (part, stage) in asks]
        polys = [poly for part in parts for poly in change[part]]
        found.append((parts, Growing(polys, [_constant(x) for x in start])))
    return found


def _newest_rates(stages, cells):
    """For each ask (part, stage) what stands before the newest power in its rates."""
    rates = {}
    for stage, (parts, growing) in enumerate(stages):
        worths = [poly_value(rate, ZERO) for rate in growing.rates()]
        for at, part in enumerate(parts):
            rates[(part, stage)] = worths[at * cells:(at + 1) * cells]
    return rates


def series_run(sheet, change, start, power):
    """The list of the tells as SERIES to this power."""
    (matrices, tells), change, start = frozen(sheet), frozen(change), frozen(start)
    none = (ZERO,) * len(start)
    stages = _growing_stages(matrices, tells, change, start)
    found = [[start] for _ in tells]
    for _ in range(power):
        rates = _newest_rates(stages, len(start))
        for stage, (_, growing) in enumerate(stages):
            growing.further([_constant(x) for x in _moved(none, ONE, _rows_of(matrices, stage), rates)])
        found = [states + [_moved(none, ONE, tell, rates)] for states, tell in zip(found, tells)]
    return [tuple(list(zip(*states))) for states in found]


def _still_series(start, power):
    """The SERIES of what stays at start."""
    return tuple([(x,) + (ZERO,) * power for x in start])


def _led(polys, series, x):
    """The SERIES of where POLYS, one for each cell, lead the SERIES in x times the step.

    They are told for s times x times the step, as POWERSUMS in s.
    """
    growing = Growing(polys, [_constant(cell[0]) for cell in series])
    states = [[cell[0] for cell in series]]
    for done in range(1, len(series[0])):
        rates = growing.rates()
        row = [poly_plus(_constant(cell[done]), poly_scaled(poly_integral(rate), x))
               for cell, rate in zip(series, rates)]
        growing.further(row)
        states.append([poly_value(poly, ONE) for poly in row])
    return tuple(list(zip(*states)))


def flow_series(change, start, power):
    """The SERIES of the way on which all parts together lead start."""
    return _led(whole_change(change)[0], _still_series(frozen(start), power), ONE)


def row_series(change, row, start, power):
    """The SERIES of where the ROW leads start."""
    change, series = frozen(change), _still_series(frozen(start), power)
    for part, x in row:
        series = _led(change[part], series, x)
    return series


def unlike_at(series, other):
    """The least power at which two SERIES differ, None if there is none."""
    series, other = frozen(series), frozen(other)
    for power in range(len(series[0])):
        if [cell[power] for cell in series] != [cell[power] for cell in other]:
            return power
    return None


def series_at(series, h):
    """The STATE of the values of the SERIES at h."""
    return tuple([poly_value(cell, h) for cell in series])
