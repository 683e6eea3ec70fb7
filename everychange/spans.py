"""Rows of whole numbers that are taken in one after another, if they are new."""

from everychange.ratios import lowest, whole_row


class Span:
    """The sums of multiples of some rows of whole numbers."""

    def __init__(self):
        self.lines = []

    def takes(self, numbers):
        """Takes the row in; whether it is no sum of multiples of those before."""
        if len(self.lines) == len(numbers):
            return False
        rest = numbers
        for place, line in self.lines:
            if rest[place]:
                lead, share = line[place], rest[place]
                rest = lowest([lead * x - share * y for x, y in zip(rest, line)])
        place = next((at for at in range(len(rest)) if rest[at]), None)
        if place is None:
            return False
        self.lines.append((place, rest))
        return True


def products_of(numbers, others):
    """The products place by place, without common divisors."""
    return lowest([x * y for x, y in zip(numbers, others)])


def dot_of(numbers, others):
    """The sum of the products place by place."""
    return sum([x * y for x, y in zip(numbers, others)])


def sums_by(matrix, numbers):
    """What the matrix of whole numbers makes of the row, without common divisors."""
    return lowest([dot_of(line, numbers) for line in matrix])


def whole_matrix(matrix):
    """The square matrix of FRACTIONS times a number above 0, as lists of whole numbers."""
    numbers, size = whole_row([x for row in matrix for x in row]), len(matrix)
    return [numbers[at * size:(at + 1) * size] for at in range(size)]
