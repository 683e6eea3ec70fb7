"""Polynomials as lists of whole numbers, and how often signs change in their chains: how real roots are counted."""

from everychange.ratios import lowest

ABOVE = (1, 0)
BELOW = (-1, 0)


def less_common(numbers):
    """The numbers without 0s at the end, divided by what divides all of them."""
    length = len(numbers)
    while length and numbers[length - 1] == 0:
        length -= 1
    return lowest(numbers[:length])


def whole_rest(numbers, others):
    """The rest of numbers divided by others, times a number above 0 that makes it whole and small."""
    rest = list(numbers)
    size, sign = abs(others[-1]), -1 if others[-1] < 0 else 1
    while len(rest) >= len(others):
        lead, behind = sign * rest[-1], len(rest) - len(others)
        rest = [size * number for number in rest]
        for at, number in enumerate(others):
            rest[behind + at] = rest[behind + at] - lead * number
        rest = less_common(rest)
    return rest


def first_common(numbers, others):
    """The polynomial of greatest degree that divides both, as whole numbers."""
    numbers, others = less_common(numbers), less_common(others)
    while others:
        if len(others) == 1:
            return [1]
        numbers, others = others, whole_rest(numbers, others)
    return numbers


def chain_from(numbers, others):
    """The two polynomials, and each time the rest of the two before it, with the other sign."""
    chain, other = [numbers], less_common(others)
    while other:
        chain.append(other)
        other = [-number for number in whole_rest(chain[-2], other)]
    return chain


def sign_chain(numbers):
    """Sturm's chain of a polynomial whose roots are single ones."""
    return chain_from(numbers, [at * number for at, number in enumerate(numbers)][1:])


def sign_at(numbers, x):
    """The sign of the polynomial at x; ABOVE and BELOW are beyond all its roots."""
    top, bottom = x
    worth, scale = 0, 1
    for number in reversed(numbers):
        worth = worth * top + number * scale
        scale = scale * bottom
    return (worth > 0) - (worth < 0)


def _changes(signs):
    signs = [sign for sign in signs if sign]
    return len([at for at in range(1, len(signs)) if signs[at] != signs[at - 1]])


def changes_at(chain, x):
    """How often the sign changes along the chain at x."""
    return _changes([sign_at(numbers, x) for numbers in chain])


def root_bound(numbers):
    """A whole number that is greater than the size of each root."""
    return 1 + max([abs(number) for number in numbers]) // abs(numbers[-1]) + 1
