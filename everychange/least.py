"""Least SHEETS, and how much must be solved at once, point [15]."""

from everychange.lots import lot_sheet, lots
from everychange.plain import check_place, frozen
from everychange.ratios import ONE, minus, times
from everychange.tables import hung_on, is_order, renamed, sheet_of, stages_of, told


def _reach(hung, stages):
    """Whether each stage is one of these or is hung on by them, straight or over others."""
    reached = [False] * len(hung)
    waiting = list(stages)
    while waiting:
        stage = waiting.pop()
        if not reached[stage]:
            reached[stage] = True
            waiting.extend(hung[stage])
    return reached


def hanging(sheet):
    """The set of the stages on which some tell hangs, straight or over others."""
    told_by = [stage for tell in sheet[1] for row in tell for stage, x in enumerate(row) if x[0]]
    return tuple([stage for stage, is_in in enumerate(_reach(hung_on(sheet[0]), told_by)) if is_in])


def kept_stages(sheet, stages):
    """The SHEET with these stages alone."""
    matrices = [tuple([tuple([matrix[i][k] for k in stages]) for i in stages]) for matrix in sheet[0]]
    tells = [tuple([tuple([row[k] for k in stages]) for row in tell]) for tell in sheet[1]]
    return (tuple(matrices), tuple(tells))


def least_sheet(sheet):
    """The least SHEET of a SHEET."""
    of_lots = lot_sheet(sheet, lots(sheet))
    return kept_stages(of_lots, hanging(of_lots))


def least_table(table):
    """The least TABLE of a TABLE."""
    return told(least_sheet(sheet_of(table)), 0)


def is_least(sheet):
    """Whether each stage is a lot by itself and some tell hangs on it."""
    return len(lots(sheet)) == len(hanging(sheet)) == stages_of(sheet)


def stages_to(sheet):
    """For each stage the stage of the least SHEET that its lot is, None if it is left out."""
    parting = lots(sheet)
    kept = hanging(lot_sheet(sheet, parting))
    found = [None] * stages_of(sheet)
    for place, at in enumerate(kept):
        for stage in parting[at]:
            found[stage] = place
    return tuple(found)


def _pair_keys(sheet):
    """For each two stages all that the SHEET says of them straight."""
    matrices, tells = sheet
    places = range(stages_of(sheet))
    weighed = [tuple([row[stage] for tell in tells for row in tell]) for stage in places]
    return [[(i == k, tuple([matrix[i][k] for matrix in matrices]), weighed[i]) for k in places] for i in places]


def _numbered(sheets_keys):
    """The keys of all SHEETS with a number for each unlike one."""
    numbers = {}
    return [[[numbers.setdefault(key, len(numbers)) for key in row] for row in keys] for keys in sheets_keys]


def _over_thirds(colors):
    """For each two stages their color, and those of their ways over each third stage."""
    columns = list(zip(*colors))
    return [[(color, tuple(sorted(list(zip(row, column))))) for color, column in zip(row, columns)] for row in colors]


def _how_many(all_colors):
    return len(set([color for colors in all_colors for row in colors for color in row]))


def _colors(sheet, other):
    """Numbers for each two stages of both SHEETS: unlike ones can never come to be each other's."""
    found = _numbered([_pair_keys(sheet), _pair_keys(other)])
    further = _numbered([_over_thirds(colors) for colors in found])
    while _how_many(further) > _how_many(found):
        found = further
        further = _numbered([_over_thirds(colors) for colors in found])
    return found


def _next_fits(mine, others, order):
    """The stages that can follow in the order."""
    place = len(order)
    found = []
    for stage in range(len(mine)):
        trial = order + [stage]
        if stage not in order and all([mine[stage][own] == others[place][at] and mine[own][stage] == others[at][place]
                                       for at, own in enumerate(trial)]):
            found.append(stage)
    return found


def matching(sheet, other):
    """An order such that renamed(sheet, order) is other, None if there is none."""
    sheet, other = frozen(sheet), frozen(other)
    if stages_of(sheet) != stages_of(other) or len(sheet[1]) != len(other[1]):
        return None
    mine, others = _colors(sheet, other)
    waiting = [[]]
    while waiting:
        order = waiting.pop()
        if len(order) == len(mine):
            return tuple(order)
        waiting.extend([order + [stage] for stage in reversed(_next_fits(mine, others, order))])
    return None


def is_matching(sheet, other, thing):
    """Whether thing is such an order."""
    return is_order(thing, stages_of(sheet)) and renamed(sheet, thing) == frozen(other)


def _circles(hung):
    """The blocks, each a set, in the order of their least stages."""
    reached = [_reach(hung, [stage]) for stage in range(len(hung))]
    found = []
    for stage in range(len(hung)):
        block = tuple([k for k in range(len(hung)) if reached[stage][k] and reached[k][stage]])
        if block[0] == stage:
            found.append(block)
    return found


def blocks(sheet):
    """The blocks, such that each hangs on earlier ones and itself alone, the one with the least stage first."""
    hung = hung_on(sheet[0])
    left, done = _circles(hung), []
    while left:
        for block in left:
            ahead = [stage for earlier in done for stage in earlier] + list(block)
            if all([other in ahead for stage in block for other in hung[stage]]):
                done.append(block)
                break
        left = [block for block in left if block != done[-1]]
    return tuple(done)


def solved_at_once(sheet):
    """How many stages the greatest solved block has, 0 if there is none."""
    hung = hung_on(sheet[0])
    return max([len(block) for block in _circles(hung) if len(block) > 1 or block[0] in hung[block[0]]], default=0)


def must_solve(sheet):
    """The least such number of all SHEETS that tell the same."""
    return solved_at_once(least_sheet(sheet))


def split_stage(sheet, stage, share):
    """The SHEET with the stage there twice: the first one is hung on share times as much, the second one the rest."""
    matrices, tells = frozen(sheet)
    check_place(stage, len(matrices[0]))
    split = []
    for matrix in matrices:
        rows = _split_rows(matrix, stage, share)
        split.append(rows + (rows[stage],))
    return (tuple(split), tuple([_split_rows(tell, stage, share) for tell in tells]))


def _split_rows(rows, stage, share):
    rest = minus(ONE, share)
    return tuple([row[:stage] + (times(share, row[stage]),) + row[stage + 1:] + (times(rest, row[stage]),)
                  for row in rows])
