"""TABLES and SHEETS, and what is made of them, point [6]."""

from everychange.errors import CanNot, Unfit
from everychange.plain import check_place, frozen, is_number, is_tuple
from everychange.ratios import ONE, ZERO, dot, is_row, minus, times


def is_rows_of_parts(thing, many, stages):
    """Whether thing is a tuple with a row over the stages for each of many parts."""
    return is_tuple(thing, many) and all([is_row(row, stages) for row in thing])


def is_matrix(thing, stages):
    """Whether thing is a square matrix of FRACTIONS, of this size."""
    return is_tuple(thing, stages) and all([is_row(row, stages) for row in thing])


def _stages_if_matrices(thing, many):
    """How many stages the matrices of a TABLE of many parts have; None if thing is no such matrices."""
    if many < 1 or not is_tuple(thing, many) or not isinstance(thing[0], tuple):
        return None
    stages = len(thing[0])
    return stages if all([is_matrix(matrix, stages) for matrix in thing]) else None


def is_table(thing, many):
    """Whether thing is a TABLE of many parts."""
    if not is_tuple(thing, 2):
        return False
    stages = _stages_if_matrices(thing[0], many)
    return stages is not None and is_rows_of_parts(thing[1], many, stages)


def is_sheet(thing, many):
    """Whether thing is a SHEET of many parts."""
    if not is_tuple(thing, 2) or not isinstance(thing[1], tuple):
        return False
    stages = _stages_if_matrices(thing[0], many)
    return stages is not None and all([is_rows_of_parts(tell, many, stages) for tell in thing[1]])


def _has_tells(sheet):
    """Whether sheet is a SHEET; it is a TABLE otherwise."""
    if not sheet[1]:
        return True
    first = sheet[1][0]
    if not first:
        return False
    # The first of a row is a FRACTION, the first of a tell is a row.
    return not first[0] or not is_number(first[0][0])


def stages_of(sheet):
    """How many stages a TABLE or SHEET has."""
    return len(sheet[0][0])


def hung_on(matrices):
    """For each stage the list of the stages that it hangs on, ascending."""
    places = range(len(matrices[0]))
    return [[k for k in places if any([matrix[stage][k][0] for matrix in matrices])] for stage in places]


def stage_order(matrices):
    """The stages, always the least one that is left and hangs on earlier ones alone, till there is none."""
    hung = hung_on(matrices)
    taken = [False] * len(hung)
    order = []
    found = True
    while found:
        found = False
        for stage, others in enumerate(hung):
            if not taken[stage] and all([taken[other] for other in others]):
                taken[stage] = found = True
                order.append(stage)
                break
    return order


def is_explicit(sheet):
    """Whether a TABLE or SHEET is explicit."""
    return len(stage_order(sheet[0])) == stages_of(sheet)


def _placed(rows, order):
    """The row over the stages, or the rows over the parts of them, with stage order[k] as stage k."""
    return tuple([tuple([row[stage] for stage in order]) for row in rows])


def _reordered(sheet, order):
    """The frozen TABLE or SHEET with stage order[k] as stage k."""
    matrices = tuple([_placed([matrix[stage] for stage in order], order) for matrix in sheet[0]])
    if _has_tells(sheet):
        return (matrices, tuple([_placed(tell, order) for tell in sheet[1]]))
    return (matrices, _placed(sheet[1], order))


def put_in_order(sheet):
    """The TABLE or SHEET with its stages in an order in which each hangs on earlier ones alone."""
    sheet = frozen(sheet)
    order = stage_order(sheet[0])
    if len(order) < stages_of(sheet):
        raise CanNot()
    return _reordered(sheet, order)


def is_order(thing, many):
    """Whether thing is a tuple of the numbers from 0 to many - 1, each just once."""
    return is_tuple(thing, many) and all([is_number(item) for item in thing]) and sorted(thing) == list(range(many))


def renamed(sheet, order):
    """The TABLE or SHEET with the old stage order[k] as stage k."""
    sheet, order = frozen(sheet), frozen(order)
    if not is_order(order, stages_of(sheet)):
        raise Unfit()
    return _reordered(sheet, order)


def part_places(sheet):
    """For each part the row of the sums of the rows of its matrix."""
    return [tuple([row_sum(row) for row in matrix]) for matrix in sheet[0]]


def row_sum(row):
    """The sum of the FRACTIONS of a row."""
    return dot(row, [ONE] * len(row))


def _mapped(sheet, change):
    """The TABLE with change done to each of its FRACTIONS."""
    matrices, weights = sheet
    return (tuple([tuple([tuple([change(x) for x in row]) for row in matrix]) for matrix in matrices]),
            tuple([tuple([change(x) for x in row]) for row in weights]))


def _zeros(many):
    return (ZERO,) * many


def _side_by_side(first, second, below):
    """The matrix of first, then second, whose rows begin with the row below."""
    width = len(second)
    return tuple([row + _zeros(width) for row in first] + [below + row for row in second])


def _joined(matrices, others, weights):
    """The matrices of both, those of others behind what weights tell."""
    return tuple([_side_by_side(*rows) for rows in zip(matrices, others, weights)])


def _beside_matrices(matrices, others):
    return _joined(matrices, others, [_zeros(len(matrix)) for matrix in matrices])


def behind(table, other):
    """The TABLE that tells what a round of other tells behind a round of table."""
    (matrices, weights), (others, second) = frozen(table), frozen(other)
    return (_joined(matrices, others, weights), tuple([row + more for row, more in zip(weights, second)]))


def scaled(table, x):
    """The TABLE with all FRACTIONS times x."""
    return _mapped(table, lambda y: times(x, y))


def undone(table):
    """The TABLE that leads back from what table tells."""
    matrices, weights = _mapped(table, lambda y: times(ONE, y))
    less = [tuple([tuple([minus(x, y) for x, y in zip(row, line)]) for row in matrix])
            for matrix, line in zip(matrices, weights)]
    return (tuple(less), tuple([tuple([times((-1, 1), y) for y in line]) for line in weights]))


def mixed(tables, shares):
    """The TABLE that tells the sum of each share times what the table at its place tells."""
    tables = frozen(tables)
    if len(tables) != len(shares) or row_sum(shares) != ONE:
        raise Unfit()
    matrices = tables[0][0]
    for table in tables[1:]:
        matrices = _beside_matrices(matrices, table[0])
    weights = []
    for part in range(len(matrices)):
        row = ()
        for table, share in zip(tables, shares):
            row = row + tuple([times(share, x) for x in table[1][part]])
        weights.append(row)
    return (matrices, tuple(weights))


def beside(sheet, other):
    """The SHEET with the stages and tells of both; they do not hang on one another."""
    (matrices, tells), (others, more) = frozen(sheet), frozen(other)
    ahead, rest = _zeros(stages_of((matrices, tells))), _zeros(stages_of((others, more)))
    first = [tuple([row + rest for row in tell]) for tell in tells]
    second = [tuple([ahead + row for row in tell]) for tell in more]
    return (_beside_matrices(matrices, others), tuple(first + second))


def told(sheet, number):
    """The TABLE with the tell at number."""
    check_place(number, len(sheet[1]))
    return (frozen(sheet[0]), frozen(sheet[1][number]))


def sheet_of(table):
    """The SHEET with the one tell of table."""
    return (frozen(table[0]), (frozen(table[1]),))


def _no_rounds(table):
    none = ((),) * len(table[0])
    return (none, none)


def repeated(table, n):
    """The TABLE of n rounds one behind another."""
    rows = _no_rounds(table)
    for _ in range(n):
        rows = behind(rows, table)
    return rows


def rounds(table, n):
    """The SHEET of n rounds that tells what stands after each of them."""
    matrices, weights = repeated(table, n)
    stages = stages_of(table)
    tells = []
    for done in range(1, n + 1):
        rest = _zeros((n - done) * stages)
        tells.append(tuple([row[:done * stages] + rest for row in weights]))
    return (matrices, tuple(tells))


def spread(table, many):
    """The TABLE of many parts with the matrix and weights of table for each of them."""
    matrices, weights = frozen(table)
    if len(matrices) != 1:
        raise Unfit()
    return (matrices * many, weights * many)


def only(table, part):
    """The TABLE of this part alone."""
    check_place(part, len(table[0]))
    return ((frozen(table[0][part]),), (frozen(table[1][part]),))
