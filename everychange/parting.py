"""Rows that part: WORDS and their worths, PUSHES, and runs that show it, point [9]."""

from everychange.flowrows import is_same, normal_row, row_joined, row_turned
from everychange.plain import is_tuple, unit
from everychange.polys import poly_plus, poly_scaled, poly_times, poly_value, trimmed
from everychange.ratios import ONE, ZERO, is_fraction, is_less, is_row, minus, over, plus, product, sign_of, times
from everychange.ratios import whole
from everychange.tables import is_matrix
from everychange.words import first_word


def word_worth(row, word):
    """The worth of word in row."""
    worths = [ONE] + [ZERO] * len(word)
    for part, x in row:
        # Here worths has, for each number of letters, the worth of so many first letters in the pairs before.
        worths = [_worth_behind(worths, word[:letters], part, x) for letters in range(len(word) + 1)]
    return worths[-1]


def _worth_behind(worths, word, part, x):
    """The worth of word if a pair (part, x) follows what worths are told for."""
    letters, share = len(word), ONE
    total = worths[letters]
    for piece in range(1, letters + 1):
        if word[letters - piece] != part:
            break
        share = times(share, over(x, whole(piece)))
        total = plus(total, times(share, worths[letters - piece]))
    return total


def rest_of(row, other):
    """The normal ROW of row and other undone behind it."""
    return normal_row(row_joined(row, row_turned(other)))


def parting_word(row, other):
    """The shortest WORD at which they part, of these the least; None if they are the same."""
    rest = rest_of(row, other)
    # Of the shortest WORDS each has the same worth in the rest that it has more in row than in other.
    return first_word(rest) if rest else None


def _vanishes(matrix):
    """Whether some power of the matrix is 0."""
    done = 1
    while done < len(matrix):
        matrix = product(matrix, matrix)
        done = done + done
    return not any([x[0] for row in matrix for x in row])


def is_push(thing):
    """Whether thing is a PUSH."""
    if not isinstance(thing, tuple) or not thing or not isinstance(thing[0], tuple) or not thing[0]:
        return False
    size = len(thing[0])
    return all([is_matrix(matrix, size) for matrix in thing]) and all([_vanishes(matrix) for matrix in thing])


def cell_push(many):
    """The PUSH of many parts and two cells by which ROWS part exactly if they are not the same."""
    return tuple([((whole(-a), ONE), (whole(-a * a), whole(a))) for a in range(1, many + 1)])


def spring_push():
    """The PUSH of two parts by which each of two cells moves the other one."""
    return (((ZERO, ONE), (ZERO, ZERO)), ((ZERO, ZERO), (ONE, ZERO)))


def _linear_poly(row):
    """The POLY of the dot of row with the cells."""
    cells = len(row)
    return tuple([(unit(cell, cells), (row[cell][0], row[cell][1])) for cell in reversed(range(cells)) if row[cell][0]])


def push_change(push):
    """The CHANGE that moves the cells so."""
    return tuple([tuple([_linear_poly(line) for line in matrix]) for matrix in push])


def _sum_by(line, cells):
    """The sum of the POWERSUMS, each times its FRACTION of line."""
    total = ()
    for x, cell in zip(line, cells):
        if x[0] and cell:
            total = poly_plus(total, poly_scaled(cell, x))
    return total


def _flowed(matrix, pace, cells):
    """Where the cells, POWERSUMS, are led at the rate matrix times the cells, in a time that is the POWERSUM pace."""
    term, done = cells, 0
    while any(term):
        done += 1
        further = [poly_times(pace, _sum_by(line, term)) for line in matrix]
        term = [poly_scaled(cell, (1, done)) for cell in further]
        cells = [poly_plus(cell, more) for cell, more in zip(cells, term)]
    return cells


def flow_table(row, push):
    """The matrix of POWERSUMS in the step by which row leads the cells."""
    size = len(push[0])
    columns = []
    for at in range(size):
        cells = [trimmed((whole(place),)) for place in unit(at, size)]
        for part, x in row:
            cells = _flowed(push[part], trimmed((ZERO, x)), cells)
        columns.append(cells)
    return tuple(list(zip(*columns)))


def flow_at(row, push, h, state):
    """The STATE to which row leads state with the step h."""
    cells = [trimmed((x,)) for x in state]
    for part, x in row:
        cells = _flowed(push[part], trimmed((times(x, h),)), cells)
    return tuple([poly_value(cell, ZERO) for cell in cells])


def _size_of(x):
    return minus(ZERO, x) if sign_of(x) < 0 else x


def one_step(row, other):
    """2 divided by the least size of a FRACTION in the rest, a step at which spring_push parts them."""
    sizes = [_size_of(x) for part, x in rest_of(row, other)]
    if not sizes:
        return ONE
    least = sizes[0]
    for size in sizes:
        if is_less(size, least):
            least = size
    return over(whole(2), least)


def parts_told(row, other):
    """How many parts a PUSH must have for both."""
    return max([part for part, x in row_joined(row, other)], default=-1) + 1


def parting_run(row, other):
    """(push, state, h) by which they lead to unlike STATES; None if they are the same."""
    if is_same(row, other):
        return None
    push = cell_push(parts_told(row, other))
    row, other = normal_row(row), normal_row(other)
    # The flow tables of both are unlike sums of powers: they are equal at few steps only.
    h = 1
    while True:
        for state in ((ONE, ZERO), (ZERO, ONE)):
            if flow_at(row, push, whole(h), state) != flow_at(other, push, whole(h), state):
                return (push, state, whole(h))
        h += 1


def is_parting_run(row, other, thing):
    """Whether thing is such a triple."""
    if not is_tuple(thing, 3) or not is_push(thing[0]) or len(thing[0]) < parts_told(row, other):
        return False
    push, state, h = thing
    if not is_row(state, len(push[0])) or not is_fraction(h):
        return False
    return flow_at(row, push, h, state) != flow_at(other, push, h, state)
