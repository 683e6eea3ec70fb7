"""Sign sums: each part of a ROW of order 3 with two parts or more has a FRACTION below 0, point [11]."""

from everychange.errors import Unfit
from everychange.flowrows import normal_row
from everychange.parting import word_worth
from everychange.plain import is_count, is_tuple
from everychange.ratios import ONE, ZERO, dot, is_fraction, is_row, minus, over, plus, power_of, sign_of, whole

HALF = (1, 2)
SIX = ((0, (7, 24)), (1, (2, 3)), (0, (3, 4)), (1, (-2, 3)), (0, (-1, 24)), (1, (1, 1)))


def least_row(many, power):
    """A ROW of many parts and this order with the fewest pairs."""
    if many == 1 or power == 1:
        return tuple([(part, ONE) for part in range(many)])
    if power == 2:
        there = [(part, HALF) for part in range(many - 1)]
        return tuple(there + [(many - 1, ONE)] + list(reversed(there)))
    if many == 2 and power == 3:
        return SIX
    raise Unfit()


def sign_sum(row, a, b):
    """The sign sum of row for two unlike parts."""
    words = ((b, b, a), (a, b, a), (b, a, a), (a, a, a))
    two, less = whole(2), whole(-2)
    return dot((two, less, less, two), [word_worth(row, word) for word in words])


def sign_steps(row, a, b):
    """A quadruple (from where, to where, sum of b there, share) for each pair of a."""
    own, others, found = ZERO, ZERO, []
    for part, x in row:
        if part == b:
            others = plus(others, x)
        if part == a:
            before, own = own, plus(own, x)
            # The integral of the square is a third of the cube.
            cubes = minus(power_of(minus(own, others), 3), power_of(minus(before, others), 3))
            found.append((before, own, others, over(cubes, whole(3))))
    return tuple(found)


def below_parts(row):
    """The set of parts with a FRACTION below 0 in the normal row."""
    return tuple(sorted(set([part for part, x in normal_row(row) if sign_of(x) < 0])))


def _parts_of_mix(mix):
    """The ascending list of the parts of pairs of the ROWS."""
    return sorted(set([part for row, share in mix for part, x in row]))


def _sums_and_total(mix, a, b):
    """The sign sums of the ROWS, and the sum of these, each times its FRACTION."""
    sums = tuple([sign_sum(row, a, b) for row, share in mix])
    return sums, dot(sums, [share for row, share in mix])


def sign_paper(mix):
    """(a, b, sign sums of the ROWS, what these come to), that is not 0; None if there are no such parts."""
    parts = _parts_of_mix(mix)
    for a in parts:
        for b in parts:
            sums, total = _sums_and_total(mix, a, b) if a != b else ((), ZERO)
            if total[0]:
                return (a, b, sums, total)
    return None


def is_sign_paper(mix, thing):
    """Whether thing is such a quadruple."""
    if not is_tuple(thing, 4) or not is_count(thing[0]) or not is_count(thing[1]):
        return False
    a, b, sums, total = thing
    parts = _parts_of_mix(mix)
    if a == b or a not in parts or b not in parts or not is_row(sums, len(mix)) or not is_fraction(total):
        return False
    return total != ZERO and (sums, total) == _sums_and_total(mix, a, b)
