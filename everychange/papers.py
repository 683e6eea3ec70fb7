"""One judge for STATEMENTS, and PAPERS for them and against them, point [23].

What each word of a STATEMENT asks for is looked up in tables of functions of what stands behind the word.
"""

from everychange.alike import alike_to, degree_ladder, is_alike, is_one_cell_paper, one_cell_paper, told_space
from everychange.askcode import ask_plan, is_unseen_pair, unseen_pair
from everychange.asks import needed_asks
from everychange.changes import degree_of
from everychange.errors import Unfit
from everychange.flowrows import is_flowrow, is_same, normal_row
from everychange.kept import has_kept_weights, is_losing, keeps, losing_change
from everychange.kinds import alike_on, is_parting_on, kind_rows, parting_on
from everychange.leastpower import is_parting_ladder
from everychange.lots import is_even, is_parting, lot_sheet, lots
from everychange.parting import is_parting_run, parting_run
from everychange.plain import is_ascending, is_count, is_tuple
from everychange.planruns import plan_sheet
from everychange.plans import is_plan
from everychange.ratios import is_space
from everychange.statements import checked, follows, has_shape
from everychange.tables import beside, sheet_of, stages_of, told


def is_statement(thing):
    """Whether thing is a STATEMENT."""
    return has_shape(thing)


def _both(table, other):
    return beside(sheet_of(table), sheet_of(other))


def _rows_stand(rest):
    return is_same(rest[0], rest[1])


def _same_stands(rest):
    return is_alike(rest[0], rest[1])


def _degree_stands(rest):
    return alike_to(rest[0], rest[1], rest[2])


def _kind_stands(rest):
    return alike_on(rest[0], rest[1], rest[2])


def _asks_stand(rest):
    return len(needed_asks(rest[0], rest[1])) <= rest[2]


def _keeps_stands(rest):
    return keeps(rest[0], rest[1], rest[2])


STANDING = {"rows": _rows_stand, "same": _same_stands, "degree": _degree_stands, "kind": _kind_stands,
            "asks": _asks_stand, "keeps": _keeps_stands}


def _stands(statement):
    standing = STANDING[statement[0]]
    return standing(statement[1:])


def stands(statement):
    """Whether what the STATEMENT says is so."""
    return _stands(checked(statement))


def _rows_for(rest):
    return normal_row(rest[0])


def _same_for(rest):
    return lots(_both(rest[0], rest[1]))


def _degree_for(rest):
    return told_space(_both(rest[0], rest[1]), rest[2])


def _kind_for(rest):
    return tuple(kind_rows(rest[0], _both(rest[1], rest[2])))


def _asks_for(rest):
    return ask_plan(rest[0], rest[1])


def _keeps_for(rest):
    return lots(sheet_of(rest[0]))


PAPERS_FOR = {"rows": _rows_for, "same": _same_for, "degree": _degree_for, "kind": _kind_for, "asks": _asks_for,
              "keeps": _keeps_for}


def _rows_against(rest):
    return parting_run(rest[0], rest[1])


def _same_against(rest):
    return one_cell_paper(rest[0], rest[1])


def _degree_against(rest):
    return degree_ladder(rest[0], rest[1])


def _kind_against(rest):
    return parting_on(rest[0], rest[1], rest[2])


def _asks_against(rest):
    sheet, tells, number = rest
    return tuple([(ask, unseen_pair(sheet, tells, ask)) for ask in needed_asks(sheet, tells)[:number + 1]])


def _keeps_against(rest):
    return losing_change(rest[0], rest[1], rest[2])[:4]


PAPERS_AGAINST = {"rows": _rows_against, "same": _same_against, "degree": _degree_against, "kind": _kind_against,
                  "asks": _asks_against, "keeps": _keeps_against}


def paper(statement):
    """A PAPER for the STATEMENT if it stands, otherwise one against it."""
    statement = checked(statement)
    if _stands(statement):
        shows = PAPERS_FOR[statement[0]]
    else:
        shows = PAPERS_AGAINST[statement[0]]
    return shows(statement[1:])


def _is_rows_for(rest, thing):
    return is_flowrow(thing) and normal_row(rest[0]) == thing == normal_row(rest[1])


def _is_same_for(rest, thing):
    both = _both(rest[0], rest[1])
    if not is_parting(both, thing) or not is_even(both, thing):
        return False
    _, (own, others) = lot_sheet(both, thing)
    return own == others


def _is_degree_for(rest, thing):
    both = _both(rest[0], rest[1])
    return is_space(thing, stages_of(both)) and _degree_stands(rest) and thing == told_space(both, rest[2])


def _is_kind_for(rest, thing):
    both = _both(rest[1], rest[2])
    if not is_tuple(thing, len(rest[0])) or not all([is_space(space, stages_of(both)) for space in thing]):
        return False
    return _kind_stands(rest) and thing == _kind_for(rest)


def _is_asks_for(rest, thing):
    sheet, tells, number = rest
    if not is_plan(thing) or thing[0] != len(sheet[0]) or len(thing[1]) != 1:
        return False
    words = [step[0] for step in thing[1][0][1]]
    if not all([word in ("ask", "mix", "tell") for word in words]):
        return False
    if words.count("ask") > number or words.count("tell") != len(tells):
        return False
    made = plan_sheet(thing, ((),))
    return all([is_alike(told(made, at), told(sheet, own)) for at, own in enumerate(tells)])


def _is_keeps_for(rest, thing):
    table, degree, way = rest
    sheet = sheet_of(table)
    if not is_parting(sheet, thing) or not is_even(sheet, thing):
        return False
    return has_kept_weights(told(lot_sheet(sheet, thing), 0), degree, way)


ARE_FOR = {"rows": _is_rows_for, "same": _is_same_for, "degree": _is_degree_for, "kind": _is_kind_for,
           "asks": _is_asks_for, "keeps": _is_keeps_for}


def _is_rows_against(rest, thing):
    return is_parting_run(rest[0], rest[1], thing)


def _is_same_against(rest, thing):
    return is_parting_ladder(rest[0], rest[1], thing) or is_one_cell_paper(rest[0], rest[1], thing)


def _is_degree_against(rest, thing):
    return is_parting_ladder(rest[0], rest[1], thing) and degree_of(thing) <= rest[2]


def _is_kind_against(rest, thing):
    return is_parting_on(rest[0], rest[1], rest[2], thing)


def _is_asks_against(rest, thing):
    sheet, tells, number = rest
    if not isinstance(thing, tuple) or len(thing) <= number:
        return False
    if not all([is_tuple(item, 2) and is_tuple(item[0], 2) and all([is_count(own) for own in item[0]])
                for item in thing]):
        return False
    needed = needed_asks(sheet, tells)
    if not is_ascending([ask for ask, pair in thing]) or not all([ask in needed for ask, pair in thing]):
        return False
    return all([is_unseen_pair(sheet, tells, ask, pair) for ask, pair in thing])


def _is_keeps_against(rest, thing):
    return is_losing(rest[0], rest[1], rest[2], thing)


ARE_AGAINST = {"rows": _is_rows_against, "same": _is_same_against, "degree": _is_degree_against,
               "kind": _is_kind_against, "asks": _is_asks_against, "keeps": _is_keeps_against}


def is_paper_for(statement, thing):
    """Whether thing is a PAPER for the STATEMENT."""
    statement = checked(statement)
    is_one = ARE_FOR[statement[0]]
    return is_one(statement[1:], thing)


def is_paper_against(statement, thing):
    """Whether thing is a PAPER against the STATEMENT."""
    statement = checked(statement)
    is_one = ARE_AGAINST[statement[0]]
    return is_one(statement[1:], thing)


def _verdict(statement, thing):
    if is_paper_for(statement, thing):
        return "for"
    return "against" if is_paper_against(statement, thing) else "none"


def verdicts(statements, things):
    """For each STATEMENT and the value at its place the word for, against or none."""
    known = [checked(statement) for statement in statements]
    if len(known) != len(things):
        raise Unfit()
    return [_verdict(statement, thing) for statement, thing in zip(known, things)]


def comes_of(statement, statements):
    """Whether the STATEMENT comes of these."""
    return follows(checked(statement), [checked(own) for own in statements])
