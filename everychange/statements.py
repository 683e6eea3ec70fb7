"""STATEMENTS: what they are, and which of them come of others, behind papers.py."""

from everychange.errors import Unfit
from everychange.flowrows import is_flowrow
from everychange.kept import CROSSWISE, EACH, WHOLE
from everychange.kinds import is_kind
from everychange.plain import frozen, is_count, is_set, is_tuple
from everychange.tables import is_explicit, is_sheet, is_table


def _parts_of(thing):
    """How many parts thing has if it is a TABLE or SHEET."""
    return len(thing[0]) if is_tuple(thing, 2) and isinstance(thing[0], tuple) else 0


def _are_rows(rest):
    return is_tuple(rest, 2) and is_flowrow(rest[0]) and is_flowrow(rest[1])


def _are_tables(rest):
    if not is_tuple(rest, 2):
        return False
    parts = _parts_of(rest[0])
    return is_table(rest[0], parts) and is_table(rest[1], parts)


def _are_tables_and_degree(rest):
    return is_tuple(rest, 3) and _are_tables(rest[:2]) and is_count(rest[2])


def _are_kind_and_tables(rest):
    if not is_tuple(rest, 3) or not is_kind(rest[0]) or not _are_tables(rest[1:]):
        return False
    return all([part < _parts_of(rest[1]) for part, ways in rest[0]])


def _are_sheet_and_asks(rest):
    if not is_tuple(rest, 3) or not is_sheet(rest[0], _parts_of(rest[0])) or not is_explicit(rest[0]):
        return False
    sheet, tells, number = rest
    if not is_set(tells) or not tells or tells[0] < 0 or tells[-1] >= len(sheet[1]):
        return False
    return is_count(number)


def _are_table_and_way(rest):
    if not is_tuple(rest, 3) or not is_table(rest[0], _parts_of(rest[0])):
        return False
    table, degree, way = rest
    if not is_count(degree) or not 1 <= degree <= 3 or way not in (EACH, WHOLE, CROSSWISE):
        return False
    return way != CROSSWISE or degree == 2 and len(table[0]) == 2


SHAPES = {"rows": _are_rows, "same": _are_tables, "degree": _are_tables_and_degree, "kind": _are_kind_and_tables,
          "asks": _are_sheet_and_asks, "keeps": _are_table_and_way}


def has_shape(thing):
    """Whether thing is a STATEMENT."""
    if not isinstance(thing, tuple) or not thing or not isinstance(thing[0], str) or thing[0] not in SHAPES:
        return False
    shape = SHAPES[thing[0]]
    return shape(thing[1:])


def checked(statement):
    """The STATEMENT with tuples in the place of lists; Unfit if it is none."""
    statement = frozen(statement)
    if not has_shape(statement):
        raise Unfit()
    return statement


def _are_joined(first, second, pairs):
    """Whether pairs, either way about, lead from the first to the second."""
    reached, grows = [first], True
    while grows:
        grows = False
        for one, other in pairs:
            if (one in reached) != (other in reached):
                reached.append(other if one in reached else one)
                grows = True
    return second in reached


def _behind(word, statements):
    """What stands behind this word in the STATEMENTS that begin with it."""
    return [statement[1:] for statement in statements if statement[0] == word]


def follows(statement, statements):
    """Whether the STATEMENT comes of these."""
    word, rest, same = statement[0], statement[1:], _behind("same", statements)
    if word == "rows":
        return _are_joined(rest[0], rest[1], _behind("rows", statements))
    if word == "same":
        return _are_joined(rest[0], rest[1], same)
    if word == "degree":
        further = [(one, other) for one, other, degree in _behind("degree", statements) if degree >= rest[2]]
        return _are_joined(rest[0], rest[1], same + further)
    if word == "kind":
        further = [(one, other) for kind, one, other in _behind("kind", statements) if kind == rest[0]]
        return _are_joined(rest[1], rest[2], same + further)
    if word == "asks":
        return any([known[:2] == rest[:2] and known[2] <= rest[2] for known in _behind("asks", statements)])
    return any([way == rest[2] and degree >= rest[1] and _are_joined(table, rest[0], same)
                for table, degree, way in _behind("keeps", statements)])
