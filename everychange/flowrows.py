"""ROWS of flows, and what they are if some parts go together, point [8]."""

from everychange.plain import frozen, is_ascending, is_count, is_tuple
from everychange.ratios import ZERO, is_fraction, minus, plus, times


def _is_pair(thing):
    return is_tuple(thing, 2) and is_count(thing[0]) and is_fraction(thing[1])


def is_flowrow(thing):
    """Whether thing is a ROW."""
    return isinstance(thing, tuple) and all([_is_pair(item) for item in thing])


def _is_meet(thing):
    return is_tuple(thing, 2) and is_count(thing[0]) and is_count(thing[1]) and thing[0] < thing[1]


def is_meets(thing):
    """Whether thing is MEETS."""
    return isinstance(thing, tuple) and all([_is_meet(item) for item in thing]) and is_ascending(thing)


def row_turned(row):
    """The ROW that undoes row."""
    return tuple([(part, minus(ZERO, x)) for part, x in reversed(row)])


def row_joined(row, other):
    """row followed by other."""
    return frozen(row) + frozen(other)


def row_scaled(row, x):
    """The ROW with each FRACTION times x."""
    return tuple([(part, times(x, y)) for part, y in row])


def row_sums(row, many):
    """The sums of the FRACTIONS of the parts 0 to many - 1."""
    sums = [ZERO] * many
    for part, x in row:
        sums[part] = plus(sums[part], x)
    return tuple(sums)


def _go_together(part, other, meets):
    return (min(part, other), max(part, other)) in meets


def _place_to_join(row, part, meets):
    """The place of the pair of this part that turns (3) can bring to the end, None if there is none."""
    for at in range(len(row) - 1, -1, -1):
        if row[at][0] == part:
            return at
        if not _go_together(row[at][0], part, meets):
            return None
    return None


def _shortest(row, meets):
    """A shortest ROW, as a list, to which turns lead."""
    found = []
    for part, x in row:
        at = _place_to_join(found, part, meets)
        if at is None:
            at, before = len(found), ZERO
        else:
            before = found[at][1]
        total = plus(before, x)
        found[at:at + 1] = [(part, total)] if total[0] else []
    return found


def normal_row(row):
    """The normal ROW that comes of row by (1) and (2)."""
    return tuple(_shortest(row, ()))


def is_same(row, other):
    """Whether both are the same FOR ALL PARTS."""
    return normal_row(row) == normal_row(other)


def _foremost(parts, meets):
    """The places of the parts that can be brought to the first place if neighbours in meets change places."""
    return [at for at, part in enumerate(parts)
            if all([_go_together(part, ahead, meets) for ahead in parts[:at]])]


def least_order(parts, meets):
    """The places of the parts in the least order to which neighbours in meets lead by changing places."""
    left, found = list(range(len(parts))), []
    while left:
        parts_left = [parts[place] for place in left]
        # Of equal parts the first one alone is foremost.
        _, at = min([(parts_left[place], place) for place in _foremost(parts_left, meets)])
        found.append(left.pop(at))
    return found


def _parts_of(row):
    return [part for part, x in row]


def normal_with(row, meets):
    """Of the shortest ROWS to which turns lead, the one whose tuple of parts is least."""
    meets = frozen(meets)
    short = _shortest(row, meets)
    return tuple([short[at] for at in least_order(_parts_of(short), meets)])


def is_same_with(row, other, meets):
    """Whether both are the same for all parts that meets let."""
    return normal_with(row, meets) == normal_with(other, meets)


def layers(row, meets):
    """The sets of pairs that can be brought to the first place, when those before are taken away."""
    meets = frozen(meets)
    left, found = _shortest(row, meets), []
    while left:
        foremost = _foremost(_parts_of(left), meets)
        found.append(tuple(sorted([left[at] for at in foremost])))
        left = [pair for at, pair in enumerate(left) if at not in foremost]
    return tuple(found)


def _with_one_left_out(meets):
    return [meets[:at] + meets[at + 1:] for at in range(len(meets))]


def meets_for(row, other, many):
    """The ascending list of all least MEETS with which both are the same."""
    every = [()]
    for pair in [(i, j) for i in range(many) for j in range(i + 1, many)]:
        every = every + [meets + (pair,) for meets in every]
    fit = [meets for meets in every if is_same_with(row, other, meets)]
    return sorted([meets for meets in fit if not any([less in fit for less in _with_one_left_out(meets)])])
