"""Lots of stages that have the same point whatever the change is, point [12]."""

from everychange.errors import TooMuch, Unfit
from everychange.plain import check_place, frozen, is_ascending, is_set
from everychange.tables import row_sum, stages_of

MOST = 7


def is_parting(sheet, thing):
    """Whether thing is a PARTING of the SHEET."""
    if not isinstance(thing, tuple) or not all([is_set(lot) and lot for lot in thing]) or not is_ascending(thing):
        return False
    return sorted([stage for lot in thing for stage in lot]) == list(range(stages_of(sheet)))


def _parting_by(keys):
    """The PARTING in which stages are in one lot if their keys are equal."""
    lots_by_key = {}
    for stage, key in enumerate(keys):
        lots_by_key.setdefault(key, []).append(stage)
    return tuple([tuple(lot) for lot in lots_by_key.values()])


def _places_in(parting):
    """For each stage the place of its lot."""
    places = {}
    for at, lot in enumerate(parting):
        for stage in lot:
            places[stage] = at
    return [places[stage] for stage in range(len(places))]


def _sums_over(row, parting):
    """The sums of a row over the lots."""
    return tuple([row_sum([row[stage] for stage in lot]) for lot in parting])


def _sums_of(sheet, parting, stage):
    """For each part the sums of the row of the stage over the lots."""
    return tuple([_sums_over(matrix[stage], parting) for matrix in sheet[0]])


def _refined(sheet, parting):
    """The PARTING that parts stages of one lot whose sums over some lot are unlike."""
    return _parting_by([(at, _sums_of(sheet, parting, stage)) for stage, at in enumerate(_places_in(parting))])


def is_even(sheet, parting):
    """Whether the PARTING is even."""
    return len(_refined(sheet, parting)) == len(parting)


def is_finer(parting, second):
    """Whether each lot of parting lies in a lot of second."""
    places = _places_in(second)
    return all([places[stage] == places[lot[0]] for lot in parting for stage in lot])


def _steps_from(sheet, parting):
    """The list of PARTINGS from this one on, each refined, to the first one that is even."""
    steps = [parting]
    further = _refined(sheet, parting)
    while len(further) > len(steps[-1]):
        steps.append(further)
        further = _refined(sheet, further)
    return steps


def lots_within(sheet, parting):
    """Of the even PARTINGS that are finer than this one, that which all these are finer than."""
    return _steps_from(sheet, frozen(parting))[-1]


def parting_steps(sheet):
    """The list of PARTINGS from all stages in one lot to the lots of the SHEET."""
    return _steps_from(sheet, _parting_by([0] * stages_of(sheet)))


def lots(sheet):
    """The even PARTING that all even ones are finer than."""
    return parting_steps(sheet)[-1]


def lot_of(sheet, stage):
    """The place of the lot of the SHEET that has this stage."""
    check_place(stage, stages_of(sheet))
    return _places_in(lots(sheet))[stage]


def joined_parting(parting, second):
    """Of the PARTINGS that both are finer than, that which is finer than all these."""
    keys = _places_in(parting)
    for lot in second:
        joined = [keys[stage] for stage in lot]
        keys = [joined[0] if key in joined else key for key in keys]
    return _parting_by(keys)


def parted_after(sheet, stage, other):
    """The least place in parting_steps at which both stages are in unlike lots, None if they never are."""
    check_place(stage, stages_of(sheet))
    check_place(other, stages_of(sheet))
    for at, parting in enumerate(parting_steps(sheet)):
        places = _places_in(parting)
        if places[stage] != places[other]:
            return at
    return None


def lot_sheet(sheet, parting):
    """The SHEET with the lots as stages."""
    if not is_even(sheet, parting):
        raise Unfit()
    matrices = [tuple([_sums_over(matrix[lot[0]], parting) for lot in parting]) for matrix in sheet[0]]
    tells = [tuple([_sums_over(row, parting) for row in tell]) for tell in sheet[1]]
    return (tuple(matrices), tuple(tells))


def laid_out(parting, row):
    """The row of the stages, each with the FRACTION of its lot."""
    row = frozen(row)
    return tuple([row[at] for at in _places_in(parting)])


def even_partings(sheet):
    """The ascending list of all even PARTINGS."""
    stages = stages_of(sheet)
    if stages > MOST:
        raise TooMuch()
    keys = [()]
    for _ in range(stages):
        keys = [row + (key,) for row in keys for key in range(max(row, default=-1) + 2)]
    partings = [_parting_by(row) for row in keys]
    return sorted([parting for parting in partings if is_even(sheet, parting)])
