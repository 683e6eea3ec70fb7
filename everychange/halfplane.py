"""On which side of a line in the plane the roots of POWERSUMS are, and where POWERSUMS are below 0."""

from everychange.polys import isolated, poly_plus, poly_scaled, poly_times, poly_value, trimmed
from everychange.ratios import ONE, ZERO, is_less, lowest, minus, plus, sign_of, times, whole, whole_row
from everychange.signchanges import ABOVE, BELOW, chain_from, changes_at, root_bound

LESS = (-1, 1)
HALF = (1, 2)


def has_right_roots_alone(poly):
    """Whether all roots of the POWERSUM, not (), real or not, have a real part above 0."""
    # Routh's rows for the roots times -1, which must lie to the left: each row begins with a number above 0.
    numbers = [number if at % 2 == 0 else -number for at, number in enumerate(whole_row(poly))]
    sign = 1 if numbers[-1] > 0 else -1
    falling = [sign * number for number in reversed(numbers)]
    first, second = falling[::2], falling[1::2]
    for _ in range(len(numbers) - 1):
        if second[0] <= 0:
            return False
        longer = second + [0]
        third = [second[0] * first[at] - first[0] * longer[at] for at in range(1, len(first))]
        first, second = second, lowest(third)
    return True


def _where(poly, real, imaginary):
    """The real and the imaginary part of the POWERSUM where its number has these parts, POWERSUMS all."""
    own, other = (), ()
    for x in reversed(poly):
        less = poly_scaled(poly_times(other, imaginary), LESS)
        turned = poly_plus(poly_times(own, imaginary), poly_times(other, real))
        own, other = poly_plus(poly_plus(poly_times(own, real), less), trimmed((x,))), turned
    return own, other


def size_where(poly, real, imaginary):
    """The size of the POWERSUM where its number has this real and this imaginary part, POWERSUMS all."""
    own, other = _where(poly, real, imaginary)
    return poly_plus(poly_times(own, own), poly_times(other, other))


def spans_below(poly):
    """Pairs (left, right) between which the POWERSUM is below 0, one for each gap between its roots where it is."""
    if not poly:
        return []
    width = ONE
    pairs = isolated(poly, None, None, width)
    while any([not is_less(pairs[at][1], pairs[at + 1][0]) for at in range(len(pairs) - 1)]):
        width = times(width, HALF)
        pairs = isolated(poly, None, None, width)
    if not pairs:
        gaps = [(ZERO, ONE)]
    else:
        gaps = [(minus(pairs[0][0], ONE), pairs[0][0])]
        gaps.extend([(pairs[at][1], pairs[at + 1][0]) for at in range(len(pairs) - 1)])
        gaps.append((pairs[-1][1], plus(pairs[-1][1], ONE)))
    return [(left, right) for left, right in gaps if sign_of(poly_value(poly, _middle(left, right))) < 0]


def _middle(left, right):
    return times(plus(left, right), HALF)


def _roots_left_of(poly, p):
    """How many roots of the POWERSUM have a real part below p, if none has p."""
    own, other = _where(poly, trimmed((p,)), (ZERO, ONE))
    degree = len(poly) - 1
    # How often the POWERSUM turns around 0 along the line tells how many more roots are to the left than to the right.
    first, second = (own, poly_scaled(other, LESS)) if degree % 2 == 0 else (other, own)
    chain = chain_from(whole_row(first), whole_row(second))
    return (degree + changes_at(chain, BELOW) - changes_at(chain, ABOVE)) // 2


class RootLine:
    """A line that comes ever nearer to a root, of those that are to the left of 0 that most to the left."""

    def __init__(self, poly):
        self.poly = poly
        self.left = whole(-root_bound(whole_row(poly)))
        self.right = ZERO

    def middle(self):
        """The real part of the line."""
        return _middle(self.left, self.right)

    def further(self):
        """Takes the next line; no root may be on the one before."""
        middle = self.middle()
        if _roots_left_of(self.poly, middle):
            self.right = middle
        else:
            self.left = middle
