"""FRACTIONS, rows of them, and SPACES of rows, point [4]."""

from math import gcd, lcm

from everychange.errors import BadLine, CanNot, Unfit
from everychange.plain import is_number, is_tuple

ZERO = (0, 1)
ONE = (1, 1)
FIGURES = 60
BLOCK = 10 ** 60


def is_fraction(thing):
    """Whether thing is a FRACTION."""
    if not is_tuple(thing, 2) or not is_number(thing[0]) or not is_number(thing[1]):
        return False
    return thing[1] >= 1 and gcd(thing[0], thing[1]) == 1


def fraction(top, bottom):
    """The FRACTION top / bottom."""
    if bottom == 0:
        raise Unfit()
    common = gcd(top, bottom)
    if bottom < 0:
        common = -common
    return (top // common, bottom // common)


def whole(number):
    """The number as a FRACTION."""
    return (number, 1)


def plus(x, y):
    """x + y."""
    if x[1] == y[1]:
        return fraction(x[0] + y[0], x[1])
    return fraction(x[0] * y[1] + y[0] * x[1], x[1] * y[1])


def minus(x, y):
    """x - y."""
    return plus(x, (-y[0], y[1]))


def times(x, y):
    """x * y."""
    return fraction(x[0] * y[0], x[1] * y[1])


def over(x, y):
    """x / y."""
    return fraction(x[0] * y[1], x[1] * y[0])


def power_of(x, many):
    """x to the power many; 0 to the power 0 is 1."""
    if many < 0:
        return power_of(over(ONE, x), -many)
    return (_raised(x[0], many), _raised(x[1], many))


def _raised(base, many):
    worth = 1
    while many:
        if many & 1:
            worth = worth * base
        base = base * base
        many = many >> 1
    return worth


def is_less(x, y):
    """Whether x is less than y."""
    return x[0] * y[1] < y[0] * x[1]


def sign_of(x):
    """-1, 0 or 1."""
    return (x[0] > 0) - (x[0] < 0)


def ratio_text(x):
    """The text of x: 3, or -7/2."""
    sign = "-" if x[0] < 0 else ""
    top = _figures(abs(x[0]))
    if x[1] == 1:
        return sign + top
    return sign + top + "/" + _figures(x[1])


def _figures(number):
    # Python by itself refuses texts of numbers with some thousand figures.
    blocks = []
    while number >= BLOCK:
        number, rest = divmod(number, BLOCK)
        blocks.append(str(rest).zfill(60))
    blocks.append(str(number))
    return "".join(reversed(blocks))


def ratio_by(text):
    """The FRACTION with this very text."""
    sign, unsigned = (-1, text[1:]) if text.startswith("-") else (1, text)
    top, slash, bottom = unsigned.partition("/")
    if not slash:
        bottom = "1"
    if not is_figures(top) or not is_figures(bottom):
        raise BadLine(1)
    below = _number_by(bottom)
    if below == 0:
        raise BadLine(1)
    x = fraction(sign * _number_by(top), below)
    if ratio_text(x) != text:
        raise BadLine(1)
    return x


def is_figures(text):
    """Whether the text is digits alone, one or more."""
    return text.isascii() and text.isdigit()


def _number_by(text):
    padded = "0" * (-len(text) % FIGURES) + text
    number = 0
    for at in range(0, len(padded), FIGURES):
        number = number * BLOCK + int(padded[at:at + FIGURES])
    return number


def is_row(thing, many):
    """Whether thing is a row of many FRACTIONS."""
    return is_tuple(thing, many) and all([is_fraction(item) for item in thing])


def dot(row, other):
    """The sum of the products place by place."""
    top, bottom = 0, 1
    for (a, b), (c, d) in zip(row, other):
        if a == 0 or c == 0:
            continue
        low = b * d
        if low == bottom:
            top = top + a * c
        else:
            top, bottom = fraction(top * low + a * c * bottom, bottom * low)
    return fraction(top, bottom)


def applied(matrix, row):
    """The dot of each row of matrix with row, as a row."""
    return tuple([dot(line, row) for line in matrix])


def product(matrix, other):
    """The matrix that does as other, then as matrix."""
    columns = list(zip(*other))
    return tuple([tuple([dot(line, column) for column in columns]) for line in matrix])


def lowest(numbers):
    """The list of the numbers without their common divisors."""
    common = 0
    for number in numbers:
        common = gcd(common, number)
    if common > 1:
        return [number // common for number in numbers]
    return list(numbers)


def whole_row(row):
    """row as a list of whole numbers without common divisors, times a number above 0."""
    low = 1
    for top, bottom in row:
        low = lcm(low, bottom)
    return lowest([top * (low // bottom) for top, bottom in row])


def _eliminated(rows, many):
    """(columns, lines, last): line k has the number last at columns[k], where all other lines have 0."""
    lines = [whole_row(row) for row in rows]
    columns, last = [], 1
    for column in range(many):
        done = len(columns)
        found = next((at for at in range(done, len(lines)) if lines[at][column]), None)
        if found is None:
            continue
        lines[done], lines[found] = lines[found], lines[done]
        head = lines[done]
        lead = head[column]
        for at in range(len(lines)):
            if at != done:
                factor = lines[at][column]
                # The numbers are determinants of the rows: this division leaves no rest.
                lines[at] = [(lead * x - factor * y) // last for x, y in zip(lines[at], head)]
        last = lead
        columns.append(column)
    return columns, lines[:len(columns)], last


def rank(rows):
    """How many of the rows are needed to make all of them."""
    if not rows:
        return 0
    return len(_eliminated(rows, len(rows[0]))[0])


def space_of(rows, many):
    """The SPACE of all sums of multiples of rows."""
    _, lines, last = _eliminated(rows, many)
    return tuple([tuple([fraction(number, last) for number in line]) for line in lines])


def is_space(thing, many):
    """Whether thing is a SPACE of rows of many FRACTIONS."""
    if not isinstance(thing, tuple) or not all([is_row(row, many) for row in thing]):
        return False
    before = -1
    for at, row in enumerate(thing):
        lead = _lead(row)
        if lead is None or lead <= before or row[lead] != ONE:
            return False
        if any([other[lead] != ZERO for k, other in enumerate(thing) if k != at]):
            return False
        before = lead
    return True


def _lead(row):
    """The first place that is not 0, None if there is none."""
    return next((at for at in range(len(row)) if row[at][0] != 0), None)


def in_space(space, row):
    """Whether row is in the SPACE."""
    shares = [row[_lead(line)] for line in space]
    for at in range(len(row)):
        if minus(row[at], dot(shares, [line[at] for line in space])) != ZERO:
            return False
    return True


def zeros_of(rows, many):
    """The SPACE of all rows whose dot with each of rows is 0."""
    columns, lines, last = _eliminated(rows, many)
    found = []
    for free in range(many):
        if free not in columns:
            row = [ZERO] * many
            row[free] = ONE
            for line, column in zip(lines, columns):
                row[column] = fraction(-line[free], last)
            found.append(tuple(row))
    return space_of(found, many)


def combination(rows, row):
    """The FRACTIONS by which rows add up to row."""
    many = len(rows)
    columns, lines, last = _eliminated(list(zip(*rows, row)), many + 1)
    if many in columns:
        raise CanNot()
    shares = [ZERO] * many
    for line, column in zip(lines, columns):
        shares[column] = fraction(line[many], last)
    return tuple(shares)
