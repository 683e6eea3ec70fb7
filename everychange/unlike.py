"""Numbers at which forms are not 0: rates by which points are unlike, and CHANGES of one cell that have them."""

from everychange.polys import poly_through
from everychange.ratios import ZERO, dot, minus, over, whole


def never_zero(forms, many):
    """A row of many whole numbers whose dot with each of forms, none 0 throughout, is not 0."""
    ending = [[] for _ in range(many)]
    for form in forms:
        ending[max([at for at, x in enumerate(form) if x[0]])].append(form)
    row = []
    for at in range(many):
        barred = [over(minus(ZERO, dot(form[:at], row)), form[at]) for form in ending[at]]
        number = 0
        while whole(number) in barred:
            number += 1
        row.append(whole(number))
    return row


def form_less(form, other):
    """The form less the other one."""
    return [minus(x, y) for x, y in zip(form, other)]


def forms_apart(forms):
    """The differences of each two of forms."""
    return [form_less(form, other) for at, form in enumerate(forms) for other in forms[:at]]


def rates_and_points(matrices, forms):
    """(rates, points): rates at the lots, a row for each part, such that the points are unlike and forms are not 0.

    The forms are over all rates, part by part; the points are told from 0 with the step 1.
    """
    size = len(matrices[0])
    # No difference is 0 throughout: two lots with equal rows would be one lot.
    points = [[x for matrix in matrices for x in matrix[lot]] for lot in range(size)]
    row = never_zero(list(forms) + forms_apart(points), size * len(matrices))
    rates = [row[at * size:(at + 1) * size] for at in range(len(matrices))]
    return rates, [dot(form, row) for form in points]


def one_cell_poly(poly):
    """The POLY of one cell that is this POWERSUM."""
    return tuple([((power,), x) for power, x in enumerate(poly) if x[0]])


def change_through(points, rates):
    """The CHANGE of one cell with these rates, a row for each part, at these unlike points."""
    return tuple([(one_cell_poly(poly_through(points, row)),) for row in rates])
