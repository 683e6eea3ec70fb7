"""ROWS seen through each other, and loops whose number nobody tells, point [11]."""

from math import lcm

from everychange.flowpower import ring_of
from everychange.flowrows import is_flowrow, is_same, normal_row, row_joined, row_turned
from everychange.plain import is_count, is_number, is_tuple
from everychange.ratios import ZERO, is_fraction, minus, over, plus, times, whole


def seen_through(row, other):
    """A ROW c such that c, row, c undone is the same as other; None if there is none."""
    through, ring = ring_of(row)
    others_through, others_ring = ring_of(other)
    for at in range(max(1, len(ring))):
        if ring[at:] + ring[:at] == others_ring:
            # The ring begun here is the first pairs undone, the ring, these pairs.
            return normal_row(others_through + row_turned(ring[:at]) + row_turned(through))
    return None


def is_seen_through(row, other, thing):
    """Whether thing is such a ROW."""
    return is_flowrow(thing) and is_same(thing + row_joined(row, row_turned(thing)), other)


def row_rounds(row, n):
    """The normal ROW of row n times, of row undone if n is less than 0."""
    through, ring = ring_of(row if n >= 0 else row_turned(row))
    return normal_row(through + ring * abs(n) + row_turned(through))


def is_product(thing):
    """Whether thing is a PRODUCT."""
    return isinstance(thing, tuple) and all([_is_factor(item) for item in thing])


def _is_factor(thing):
    if not is_tuple(thing, 2) or not is_flowrow(thing[0]) or not is_tuple(thing[1], 2):
        return False
    return is_number(thing[1][0]) and is_number(thing[1][1]) and -1 <= thing[1][1] <= 1


def product_at(product, n):
    """The normal ROW of the PRODUCT for the number n."""
    found = ()
    for row, (c, d) in product:
        found = normal_row(found + row_rounds(row, c + d * n))
    return found


def _rounds_to_look_at(product):
    """2 to the power of how many of its pairs hang on the number."""
    return 1 << len([d for _, (_, d) in product if d != 0])


def first_apart(product, other):
    """The least n from 0 on at which they are not the same; None if they are for all whole n."""
    for n in range(_rounds_to_look_at(product) + _rounds_to_look_at(other)):
        if product_at(product, n) != product_at(other, n):
            return n
    return None


def is_form_row(thing):
    """Whether thing is a FORM ROW."""
    return isinstance(thing, tuple) and all([_is_form_pair(item) for item in thing])


def _is_form_pair(thing):
    if not is_tuple(thing, 2) or not is_count(thing[0]) or not is_tuple(thing[1], 2):
        return False
    return is_fraction(thing[1][0]) and is_fraction(thing[1][1])


def _form_rest(row, other):
    """The FORM ROW of row and other undone behind it, without what is left out for each n."""
    turned = [(part, (minus(ZERO, u), minus(ZERO, v))) for part, (u, v) in reversed(other)]
    found = []
    for part, (u, v) in list(row) + turned:
        if found and found[-1][0] == part:
            _, (before, slope) = found.pop()
            u, v = plus(before, u), plus(slope, v)
        if u[0] or v[0]:
            found.append((part, (u, v)))
    return found


def _row_at(row, n):
    """The ROW that a FORM ROW is for n."""
    return tuple([(part, plus(u, times(v, n))) for part, (u, v) in row])


def same_at(row, other):
    """The set of all FRACTIONS n at which they are the same; None if at all."""
    rest = _form_rest(row, other)
    if not rest:
        return None
    # Where no fraction is 0 the rest is normal as it stands, and does move something.
    zeros = [over(minus(ZERO, u), v) for _, (u, v) in rest if v[0]]
    low = 1
    for _, bottom in zeros:
        low = lcm(low, bottom)
    tops = sorted(set([top * (low // bottom) for top, bottom in zeros]))
    return tuple([n for n in [over(whole(top), whole(low)) for top in tops] if normal_row(_row_at(rest, n)) == ()])
