"""Linear changes, damped or not: WORDS that TABLES weigh unlike, and whether sizes ever grow, point [20]."""

from everychange.errors import Unfit
from everychange.halfplane import RootLine, has_right_roots_alone, size_where, spans_below
from everychange.parting import push_change
from everychange.plain import check_place, is_tuple
from everychange.polys import common_divisor, divided, never_below, poly_plus, poly_scaled, trimmed
from everychange.ratios import ONE, ZERO, applied, dot, fraction, is_fraction, minus, over, plus, product, sign_of
from everychange.ratios import times, whole, whole_row
from everychange.spans import Span, dot_of, whole_matrix
from everychange.tables import beside, sheet_of, undone

LESS = (-1, 1)


def word_weight(table, word):
    """The weight of the WORD for the TABLE."""
    matrices, weights = table
    for part in word:
        check_place(part, len(matrices))
    if not word:
        return ONE
    row = (ONE,) * len(matrices[0])
    for part in reversed(word[1:]):
        row = applied(matrices[part], row)
    return dot(weights[word[0]], row)


def linear_word(table, other):
    """The least of the shortest WORDS whose weights differ; None if there is none."""
    if len(table[0]) != len(other[0]):
        raise Unfit()
    matrices, (own, others) = beside(sheet_of(table), sheet_of(other))
    # A row is what is weighed ahead of further parts; the second TABLE is weighed less than nothing.
    wholes = [whole_matrix(matrix) for matrix in matrices]
    columns = [list(zip(*numbers)) for numbers in wholes]
    rows = [whole_row([minus(x, y) for x, y in zip(row, line)]) for row, line in zip(own, others)]
    span, words = Span(), [((part,), row) for part, row in enumerate(rows)]
    while words:
        kept = []
        for word, row in words:
            if sum(row) != 0:
                return word
            # If the row is a sum of those of lesser WORDS, one of these goes on to a difference before it does.
            if span.takes(row):
                kept.append((word, row))
        words = [(word + (part,), [dot_of(row, column) for column in matrix])
                 for word, row in kept for part, matrix in enumerate(columns)]
    return None


def is_alike_linear(table, other):
    """Whether no WORD has unlike weights."""
    return linear_word(table, other) is None


def word_change(word, many):
    """The CHANGE of many parts in which each part of the WORD, from the last one on, moves a cell by the one before."""
    for part in word:
        check_place(part, many)
    cells = range(len(word) + 1)
    return push_change([[[whole(int(at == cell + 1 and word[-at] == part)) for cell in cells] for at in cells]
                        for part in range(many)])


def spin_change(p, q):
    """The CHANGE of one part that turns two cells by q, and lets them grow by p."""
    return push_change((((p, minus(ZERO, q)), (q, p)),))


def _check_one_part(table):
    if len(table[0]) != 1:
        raise Unfit()


def solve_poly(table):
    """det(1 - z matrix) as a POWERSUM in z."""
    _check_one_part(table)
    matrix = table[0][0]
    places = range(len(matrix))
    found, powers = [ONE], [[whole(int(i == k)) for k in places] for i in places]
    for done in range(1, len(matrix) + 1):
        led = product(matrix, powers)
        trace = ZERO
        for at in places:
            trace = plus(trace, led[at][at])
        share = times(trace, (-1, done))
        found.append(share)
        powers = [[plus(x, share) if i == k else x for k, x in enumerate(row)] for i, row in enumerate(led)]
    return trimmed(found)


def solves_damped(table):
    """Whether all roots of solve_poly have a real part above 0."""
    return has_right_roots_alone(solve_poly(table))


def quotient(table):
    """(top, bottom): on y' = c y a round leads y to y times top / bottom at h c; bottom is 1 at 0."""
    bottom = solve_poly(table)
    top = solve_poly(undone(table))
    common = common_divisor(top, bottom)
    top, bottom = divided(top, common)[0], divided(bottom, common)[0]
    share = over(ONE, bottom[0])
    return (poly_scaled(top, share), poly_scaled(bottom, share))


def _sizes_apart(parts, real, imaginary):
    """The size of bottom less that of top, parts being (top, bottom), where their number has these parts."""
    top, bottom = parts
    return poly_plus(size_where(bottom, real, imaginary), poly_scaled(size_where(top, real, imaginary), LESS))


def _ray(parts, p, q):
    return _sizes_apart(parts, trimmed((ZERO, p)), trimmed((ZERO, q)))


def ray_poly(table, p, q):
    """The POWERSUM that at x is the size of bottom less that of top, both at (p + i q) x."""
    return _ray(quotient(table), p, q)


def _never_grow(parts):
    return has_right_roots_alone(parts[1]) and never_below(_ray(parts, ZERO, ONE))


def never_grows(table):
    """Whether the TABLE never grows."""
    return _never_grow(quotient(table))


def growing_paper(table):
    """(p, q), p at most 0, such that on spin_change(p, q) a size above 1 is told from (1, 0); None if there is none."""
    parts, solve = quotient(table), solve_poly(table)
    if _never_grow(parts):
        return None
    paper = _paper_on(parts, solve, ZERO)
    if paper is None:
        # There is a root of bottom to the left: lines that come ever nearer to it come to where the size is above 1.
        line = RootLine(parts[1])
        paper = _paper_on(parts, solve, line.middle())
        while paper is None:
            line.further()
            paper = _paper_on(parts, solve, line.middle())
    return paper


def _paper_on(parts, solve, p):
    """A pair (p, q) with this p; None if there is none."""
    for left, right in spans_below(_sizes_apart(parts, trimmed((p,)), (ZERO, ONE))):
        # For as many q as solve_poly has roots, at most, the points are told by no solution, or by several.
        for at in range(1, len(solve) + 1):
            q = plus(left, times(minus(right, left), fraction(at, len(solve) + 1)))
            if size_where(solve, trimmed((p,)), trimmed((q,))):
                return (p, q)
    return None


def is_growing_paper(table, thing):
    """Whether thing is such a pair."""
    _check_one_part(table)
    if not is_tuple(thing, 2) or not is_fraction(thing[0]) or not is_fraction(thing[1]) or sign_of(thing[0]) > 0:
        return False
    real, imaginary = trimmed(thing[:1]), trimmed(thing[1:])
    apart = _sizes_apart(quotient(table), real, imaginary)
    return size_where(solve_poly(table), real, imaginary) != () and apart != () and sign_of(apart[0]) < 0
