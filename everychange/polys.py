"""POWERSUMS: polynomials of one number, point [4]."""

from everychange.errors import Unfit
from everychange.plain import frozen, is_tuple
from everychange.ratios import ONE, ZERO, fraction, is_fraction, is_less, minus, over, plus, sign_of, times, whole
from everychange.ratios import whole_row
from everychange.signchanges import ABOVE, BELOW, changes_at, first_common, root_bound, sign_at, sign_chain


def is_powersum(thing):
    """Whether thing is a POWERSUM."""
    if not isinstance(thing, tuple) or not all([is_fraction(item) for item in thing]):
        return False
    return not thing or thing[-1] != ZERO


def trimmed(row):
    """The POWERSUM with these places, without the 0s at the end."""
    length = len(row)
    while length and row[length - 1][0] == 0:
        length -= 1
    return tuple([(top, bottom) for top, bottom in row[:length]])


def poly_plus(poly, other):
    """poly + other."""
    length = max(len(poly), len(other))
    return trimmed([plus(_place(poly, at), _place(other, at)) for at in range(length)])


def _place(poly, at):
    return poly[at] if at < len(poly) else ZERO


def poly_times(poly, other):
    """poly * other."""
    if not poly or not other:
        return ()
    places = [ZERO] * (len(poly) + len(other) - 1)
    for at, x in enumerate(poly):
        if x[0]:
            for k, y in enumerate(other):
                if y[0]:
                    places[at + k] = plus(places[at + k], times(x, y))
    return tuple(places)


def poly_scaled(poly, x):
    """x * poly."""
    if x[0] == 0:
        return ()
    return tuple([times(x, y) for y in poly])


def poly_value(poly, x):
    """What poly is at x."""
    worth = ZERO
    for y in reversed(poly):
        worth = plus(times(worth, x), y)
    return worth


def poly_through(places, worths):
    """The POWERSUM of least degree that has these values at these unlike FRACTIONS."""
    found, vanishing = (), (ONE,)
    for place, worth in zip(places, worths):
        share = over(minus(worth, poly_value(found, place)), poly_value(vanishing, place))
        found = poly_plus(found, poly_scaled(vanishing, share))
        vanishing = poly_times(vanishing, (minus(ZERO, place), ONE))
    return found


def poly_rate(poly):
    """The derivative of poly."""
    return tuple([times(whole(at), poly[at]) for at in range(1, len(poly))])


def poly_integral(poly):
    """The POWERSUM that is 0 at 0 and has poly as its derivative."""
    if not poly:
        return ()
    return (ZERO,) + tuple([over(x, whole(at + 1)) for at, x in enumerate(poly)])


def divided(poly, other):
    """How often other is in poly, and the rest."""
    if not other:
        raise Unfit()
    rest = list(frozen(poly))
    often = [ZERO] * max(0, len(rest) - len(other) + 1)
    for at in range(len(often) - 1, -1, -1):
        share = over(rest[at + len(other) - 1], other[-1])
        often[at] = share
        if share[0]:
            for k, y in enumerate(other):
                rest[at + k] = minus(rest[at + k], times(share, y))
    return (trimmed(often), trimmed(rest))


def _monic(numbers):
    """The POWERSUM of these whole numbers, with (1, 1) as its last FRACTION."""
    return tuple([fraction(number, numbers[-1]) for number in numbers])


def common_divisor(poly, other):
    """The POWERSUM of greatest degree that divides both, its last FRACTION (1, 1)."""
    return _monic(first_common(whole_row(poly), whole_row(other)))


def square_free(poly):
    """The POWERSUM with the same roots, each once, its last FRACTION (1, 1)."""
    if not poly:
        raise Unfit()
    return _monic(_chain_of(poly)[0])


def _check_bounds(poly, low, high):
    if not poly:
        raise Unfit()
    if low is not None and high is not None and not is_less(low, high):
        raise Unfit()


def _chain_of(poly):
    chain = sign_chain(whole_row(poly))
    # The last of a chain divides the others: what it has are the roots that come more than once.
    if len(chain[-1]) > 1:
        often, _ = divided(poly, _monic(chain[-1]))
        chain = sign_chain(whole_row(often))
    return chain


def _roots_among(chain, low, high):
    """How many roots are greater than low and at most high."""
    left = BELOW if low is None else low
    right = ABOVE if high is None else high
    return changes_at(chain, left) - changes_at(chain, right)


def roots_between(poly, low, high):
    """How many unlike real roots are greater than low and at most high."""
    _check_bounds(poly, low, high)
    return _roots_among(_chain_of(poly), low, high)


def isolated(poly, low, high, width):
    """A pair (left, right), at most width apart, around each root greater than low and at most high."""
    _check_bounds(poly, low, high)
    chain = _chain_of(poly)
    if not _roots_among(chain, low, high):
        return ()
    bound = root_bound(chain[0])
    left = whole(-bound) if low is None else low
    right = whole(bound) if high is None else high
    return tuple([_narrowed(chain[0], pair, width) for pair in _parted(chain, frozen(left), frozen(right))])


def _middle(left, right):
    return times(plus(left, right), (1, 2))


def _parted(chain, left, right):
    """Pairs with one root each, ascending."""
    found = []
    waiting = [(left, changes_at(chain, left), right, changes_at(chain, right))]
    while waiting:
        left, first, right, last = waiting.pop()
        if first - last == 1:
            found.append((left, right))
        elif first - last > 1:
            middle = _middle(left, right)
            between = changes_at(chain, middle)
            waiting.append((middle, between, right, last))
            waiting.append((left, first, middle, between))
    return found


def _narrowed(numbers, pair, width):
    """The pair with its one root, at most width apart."""
    left, right = pair
    above = sign_at(numbers, right)
    while is_less(width, minus(right, left)):
        middle = _middle(left, right)
        sign = sign_at(numbers, middle)
        # The one root is a single one: the sign changes there and nowhere else between the two.
        if sign == 0 or sign == above:
            right, above = middle, sign
        else:
            left = middle
    return (left, right)


def is_isolated(poly, low, high, width, thing):
    """Whether thing has such a pair for each of these roots."""
    _check_bounds(poly, low, high)
    chain = _chain_of(poly)
    if not isinstance(thing, tuple) or len(thing) != _roots_among(chain, low, high):
        return False
    for at, pair in enumerate(thing):
        if not is_tuple(pair, 2) or not is_fraction(pair[0]) or not is_fraction(pair[1]):
            return False
        left, right = pair
        if not is_less(left, right) or is_less(width, minus(right, left)):
            return False
        if low is not None and is_less(left, low) or high is not None and is_less(high, right):
            return False
        if _roots_among(chain, left, right) != 1 or _roots_among(chain, low, right) != at + 1:
            return False
    return True


def never_below(poly):
    """Whether poly is at least 0 at all real numbers."""
    if not poly:
        return True
    if sign_of(poly[-1]) < 0 or len(poly) % 2 == 0:
        return False
    return not any([roots_between(factor, None, None) for factor in _odd_factors(poly)])


def _odd_factors(poly):
    """POWERSUMS whose roots are those that poly has an odd number of times."""
    rest = common_divisor(poly, poly_rate(poly))
    roots, _ = divided(poly, rest)
    found, odd = [], True
    while len(roots) > 1:
        further = common_divisor(roots, rest)
        if odd:
            found.append(divided(roots, further)[0])
        rest, _ = divided(rest, further)
        roots, odd = further, not odd
    return found
