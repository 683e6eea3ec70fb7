"""A desk, which works requests at a board one after another, point [25]."""

from everychange.alike import is_alike
from everychange.board import Board
from everychange.deskwords import flows_of, flows_text, lists_of, ratio_of, requests_of
from everychange.engine import run_of
from everychange.errors import BadLine, CanNot, NoPlace, NothingDone, TooMuch, Unfit
from everychange.flowpower import part_power
from everychange.flowrows import is_same, normal_row, row_turned
from everychange.planlines import plan_by
from everychange.planruns import plan_table
from everychange.plans import ways
from everychange.ratios import ZERO, ratio_text
from everychange.unlike import one_cell_poly

MOST_PARTS = 4
NOTHING = "-"


def _answer(truth):
    return "yes" if truth else "no"


def _number(number):
    return "never" if number is None else str(number)


def _list(row):
    return " ".join([ratio_text(x) for x in row]) if row else NOTHING


def _lists(rows):
    return " | ".join([_list(row) for row in rows])


def _words(words):
    return " ".join(words) if words else NOTHING


def _numbers(fields):
    """The fields as numbers."""
    return [int(field) for field in fields]


def _done(number):
    """The reply to a deed."""
    return "done" if number is None else str(number)


class Desk:
    """Holds a Board; a request changes it, or puts another one in its place."""

    def __init__(self):
        self.board = Board(1)

    def parts_here(self):
        """How many parts the Board has."""
        return len(self.board.sheet()[0])

    def table_by(self, text):
        """The TABLE of the PLAN with this text on its one WAY."""
        plan = plan_by(text)
        found = ways(plan)
        if len(found) != 1 or plan[0] != self.parts_here():
            raise Unfit()
        return plan_table(plan, found[0])


def _parts(desk_there, fields, text):
    many = int(fields[0])
    if not 1 <= many <= MOST_PARTS:
        raise Unfit()
    desk_there.board = Board(many)
    return _done(None)


def _stage(desk_there, fields, text):
    return _done(desk_there.board.add_stage(lists_of(fields[0])))


def _hang(desk_there, fields, text):
    part, stage, other = _numbers(fields[:3])
    return _done(desk_there.board.hang(part, stage, other, ratio_of(fields[3])))


def _drop(desk_there, fields, text):
    return _done(desk_there.board.drop_stage(int(fields[0])))


def _tell(desk_there, fields, text):
    return _done(desk_there.board.add_tell(lists_of(fields[0])))


def _weigh(desk_there, fields, text):
    ticket, part, stage = _numbers(fields[:3])
    return _done(desk_there.board.weigh(ticket, part, stage, ratio_of(fields[3])))


def _leave(desk_there, fields, text):
    return _done(desk_there.board.drop_tell(int(fields[0])))


def _scale(desk_there, fields, text):
    return _done(desk_there.board.scale(ratio_of(fields[0])))


def _make(desk_there, fields, text):
    return _done(desk_there.board.make(fields[0]))


def _undo(desk_there, fields, text):
    return _done(desk_there.board.undo())


def _behind(desk_there, fields, text):
    return _done(desk_there.board.go_behind(desk_there.table_by(text)))


def _sheet(desk_there, fields, text):
    matrices, tells = desk_there.board.sheet()
    lines = [_lists(rows) for rows in zip(*matrices)] + ["tell " + _lists(tell) for tell in tells]
    return "\n".join(lines) if lines else NOTHING


def _tickets(desk_there, fields, text):
    return _words([str(ticket) for ticket in desk_there.board.tickets()])


def _order(desk_there, fields, text):
    ticket, most = _numbers(fields)
    return _number(desk_there.board.order(ticket, most))


def _keeps(desk_there, fields, text):
    ticket, degree = _numbers(fields[:2])
    return _answer(desk_there.board.keeps(ticket, degree, fields[2]))


def _asks(desk_there, fields, text):
    return _words([str(lot) + "." + str(part) for lot, part in desk_there.board.asks()])


def _grows(desk_there, fields, text):
    return _answer(desk_there.board.grows(int(fields[0])))


def _stays(desk_there, fields, text):
    return _answer(desk_there.board.stays(int(fields[0])))


def _parted(desk_there, fields, text):
    return _number(desk_there.board.parted(int(fields[0])))


def _alike(desk_there, fields, text):
    ticket, other = _numbers(fields)
    return _answer(desk_there.board.alike(ticket, other))


def _like(desk_there, fields, text):
    table = desk_there.table_by(text)
    return _answer(is_alike(desk_there.board.table(int(fields[0])), table))


def _run(desk_there, fields, text):
    h, rows = ratio_of(fields[0]), lists_of(fields[1])
    if len(rows) != desk_there.parts_here():
        raise Unfit()
    change = tuple([(one_cell_poly(row),) for row in rows])
    states = run_of(desk_there.board.sheet(), change, (ZERO,), h)
    return ", ".join([ratio_text(state[0]) for state in states]) if states else NOTHING


def _normal(desk_there, fields, text):
    return flows_text(normal_row(flows_of(fields[0])))


def _undone(desk_there, fields, text):
    return flows_text(normal_row(row_turned(flows_of(fields[0]))))


def _meet(desk_there, fields, text):
    row, other = flows_of(fields[0]), flows_of(fields[1])
    return _answer(is_same(row, other))


def _part(desk_there, fields, text):
    row, other = flows_of(fields[0]), flows_of(fields[1])
    return _number(part_power(row, other))


WORKED = {"parts": _parts, "stage": _stage, "hang": _hang, "drop": _drop, "tell": _tell, "weigh": _weigh,
          "leave": _leave, "scale": _scale, "make": _make, "undo": _undo, "behind": _behind, "sheet": _sheet,
          "tickets": _tickets, "order": _order, "keeps": _keeps, "asks": _asks, "grows": _grows, "stays": _stays,
          "parted": _parted, "alike": _alike, "like": _like, "run": _run, "normal": _normal, "undone": _undone,
          "meet": _meet, "part": _part}


def _reply(desk_there, fields, text):
    """The reply to a request, which is refused if it raises one of the errors of the package."""
    work = WORKED[fields[0]]
    try:
        return work(desk_there, fields[1:], text)
    except BadLine:
        return "refused BadLine"
    except CanNot:
        return "refused CanNot"
    except NoPlace:
        return "refused NoPlace"
    except NothingDone:
        return "refused NothingDone"
    except TooMuch:
        return "refused TooMuch"
    except Unfit:
        return "refused Unfit"


def desk(text):
    """The list of the replies to the requests of the text."""
    if not text:
        return []
    desk_there = Desk()
    return [_reply(desk_there, fields, below) for fields, below in requests_of(text)]


def is_request(thing):
    """Whether thing is a string that is one request by its shape alone."""
    if not isinstance(thing, str) or not thing:
        return False
    try:
        return len(requests_of(thing)) == 1
    except BadLine:
        return False


def row_text(row):
    """The FLOWS of the ROW."""
    return flows_text(row)


def row_by(text):
    """The ROW with these FLOWS."""
    return flows_of(text)
