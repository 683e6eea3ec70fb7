"""The ring of a ROW, and the least power of the step at which ROWS part, point [9]."""

from everychange.flowrows import is_same, normal_row
from everychange.parting import cell_push, flow_table, parting_word, parts_told, word_worth
from everychange.plain import is_count, is_number, is_tuple
from everychange.polys import poly_plus, poly_scaled
from everychange.ratios import plus


def ring_of(row):
    """(through, ring), normal ROWS: row is the same as through, ring, through undone."""
    ring, through = normal_row(row), ()
    while len(ring) > 1 and ring[0][0] == ring[-1][0]:
        part, x = ring[0]
        total = plus(ring[-1][1], x)
        through = through + ((part, x),)
        ring = ring[1:-1] + (((part, total),) if total[0] else ())
    return (through, ring)


def part_power(row, other):
    """The least power of the step at which they part for some parts; None if they are the same."""
    word = parting_word(row, other)
    return None if word is None else len(word)


def cell_power(row, other):
    """The least power of the step at which their flow tables on cell_push differ; None if they are the same."""
    if is_same(row, other):
        return None
    push = cell_push(parts_told(row, other))
    powers = []
    for line, others in zip(flow_table(normal_row(row), push), flow_table(normal_row(other), push)):
        for poly, second in zip(line, others):
            apart = poly_plus(poly, poly_scaled(second, (-1, 1)))
            powers.extend([power for power, x in enumerate(apart) if x[0]])
    return min(powers)


def power_paper(row, other):
    """(part_power, a WORD of so many letters at which they part); None if they are the same."""
    word = parting_word(row, other)
    return None if word is None else (len(word), word)


def is_power_paper(row, other, thing):
    """Whether thing is such a pair."""
    if not is_tuple(thing, 2) or not is_number(thing[0]) or not is_tuple(thing[1], thing[0]):
        return False
    power, word = thing
    if power != part_power(row, other) or not all([is_count(letter) for letter in word]):
        return False
    return word_worth(row, word) != word_worth(other, word)
