import itertools
import random
import re
import unittest
from fractions import Fraction

from everychange.alike import is_alike
from everychange.board import Board
from everychange.desk import desk, is_request, row_by, row_text
from everychange.engine import run_of
from everychange.errors import BadLine, CanNot, NoPlace, NothingDone, TooMuch, Unfit
from everychange.flowpower import part_power
from everychange.flowrows import is_same, normal_row, row_turned
from everychange.planlines import plan_by, plan_text
from everychange.planruns import plan_of, plan_table
from everychange.plans import ways
from everychange.ratios import ratio_text
from everychange.tables import sheet_of
from tests.helpers import HALF, ONE, ZERO, Case
from tests.test_flowrows import some_row
from tests.test_tables import some_table

one, half, less = ONE, HALF, (-1, 1)
HEUN = " parts 1\n heun:\n   k = f0(y)\n   tell y + 1/2*k + 1/2*f0(y + k)"
FORK = " parts 1\n m:\n   either\n     tell y\n   else\n     tell y + f0(y)"
N, X, REST, FIRST = r"(?:[0-9]|[1-9][0-9]{1,8})", r"[^ \n]+", r"[^\n]+", r"(?:(?! / )[^\n])+"
TEXT = r"(?:\n [^\n]*)+"
SHAPES = [f"parts {N}", f"stage {REST}", f"hang {N} {N} {N} {X}", f"drop {N}", f"tell {REST}", f"weigh {N} {N} {N} {X}", f"leave {N}",
          f"scale {X}", "make (?:least|lots|order)", "undo", f"behind{TEXT}", "sheet", "tickets", f"order {N} {N}",
          f"keeps {N} {N} (?:each|whole|crosswise)", "asks", f"grows {N}", f"stays {N}", f"parted {N}", f"alike {N} {N}", f"like {N}{TEXT}",
          f"run {X} {REST}", f"normal {REST}", f"undone {REST}", f"meet {FIRST} / {REST}", f"part {FIRST} / {REST}"]
GOOD = ["parts 3", "stage -", "stage 1/2 -3 | 0 0", "hang 0 1 2 -1/2", "drop 0", "tell 1 | -", "weigh 12 0 3 x!", "leave 999999999", "scale 007/3",
        "make least", "make lots", "make order", "undo", "behind\n " , "behind\n parts 1\n\x20\n m:", "sheet", "tickets", "order 0 40", "keeps 0 2 each",
        "keeps 1 3 whole", "keeps 0 9 crosswise", "asks", "grows 0", "stays 10", "parted 5", "alike 0 1", "like 0\n x", "run 1/2 1 | -",
        "normal -", "undone 0 1, 1 -1/2", "meet - / 0 1", "part 0 1/2, 1 2 / -"]


def looks_like_one(thing):
    return isinstance(thing, str) and any(re.fullmatch(shape, thing) for shape in SHAPES)


class Shapes(Case):

    def test_good_ones(self):
        for thing in GOOD:
            self.assertTrue(looks_like_one(thing), thing)
            self.gives(True, is_request, thing=thing)
        # By shape alone.
        self.is_one(is_request, ["stage ?", "stage  1", "stage | |", "tell  ", "scale x", "hang 0 0 0 1/0", "run ? ?", "run x  ", "normal !", "meet ? / ?",
                                 "meet a / b / c", "part  x / y", "meet a /  / b", "part a / b /", "behind\n what", "behind\n  \n ", "like 7\n ",
                                 "parts 0", "parts 999", "drop 1", "scale \u00e9", "stage \u00e9\t", "meet a/b / c", "meet -/ / /"])

    def test_near_misses(self):
        things = ["", " ", "\n", "x", "sheet ", " sheet", "sheet\n", "\nsheet", "sheets", "Sheet", "sheet sheet", "sheet\nsheet", "sheet\n x", "undo 1",
                  "undo\n ", "asks 0", "tickets 0", "parts", "parts ", "parts  1", "parts 01", "parts 00", "parts -1", "parts 1 ", "parts 1 2", "parts x",
                  "parts 1234567890", "parts 1\n 1", "parts +1", "parts \u0661", "parts 1/1", "stage", "stage ", "stage 1\n 2", "hang 0 1 2", "hang 0 1 2 ",
                  "hang 0 1 2 1 1", "hang 0 1 1/2 1", "hang  0 1 2 1", "hang 0 1 2  1", "hang 0 1 02 1", "drop", "drop 1 1", "drop -1", "drop 0x", "tell",
                  "tell ", "weigh 0 0 0", "weigh 0 0 x 1", "weigh 0 0 0 1 ", "leave", "leave all", "scale", "scale ", "scale 1 2", "scale  1", "make",
                  "make ", "make all", "make least ", "make Least", "make least lots", "make  lots", "behind", "behind ", "behind 1\n x", "behind\nx",
                  "behind\n", "behind\n x\n", "behind\n x\nsheet", "like", "like 0", "like\n x", "like 0 \n x", "like 0 1\n x", "like x\n x", "like 0\nx",
                  "order 0", "order 0 1 2", "order 0 ", "order x 1", "order 0 -1", "keeps 0 2", "keeps 0 2 ", "keeps 0 2 every", "keeps 0 each",
                  "keeps 0 2 each each", "keeps 0 2 Each", "keeps 0 2\n each", "grows", "grows 0 0", "stays", "parted", "parted x", "alike 0",
                  "alike 0 1 2", "run", "run 1", "run 1 ", "run  1", "run  1 1", "normal", "normal ", "undone", "undone ", "meet", "meet ", "meet a",
                  "meet a /", "meet a / ", "meet  / a", "meet / a", "meet a/b", "meet a /b", "part", "part a / ", "part a", "meet\n a / b", None, 7, True,
                  (), [], ("sheet",), ["sheet"], b"sheet"]
        for thing in things:
            self.assertFalse(looks_like_one(thing), thing)
            self.same(is_request(thing), False, repr(thing))

    def test_beside_patterns(self):
        source = random.Random(3)
        seen = set()
        for _ in range(6000):
            thing = source.choice(GOOD)
            for _ in range(source.randint(1, 2)):
                at = source.randrange(len(thing) + 1)
                thing = thing[:at] + source.choice((" ", "", "0", "1", "x", "\n", "\n ", "/", " / ", "|", "-")) + thing[at + source.randint(0, 1):]
            self.same(is_request(thing), looks_like_one(thing), repr(thing))
            seen.add(looks_like_one(thing))
        self.assertEqual(seen, {True, False})


class Rows(Case):

    def test_there_and_back(self):
        rows = [(), ((0, one),), ((3, (-7, 2)), (3, ZERO), (0, half)), ((999999999, one),), ((0, (-10 ** 40 + 1, 7)),)]
        for row in rows + [some_row(seed, 4, seed % 9) for seed in range(40)]:
            self.gives(row, row_by, text=row_text(row))
        self.gives("-", row_text, row=())
        self.gives("0 1", row_text, row=((0, one),))
        self.gives("3 -7/2, 3 0, 0 1/2", row_text, row=((3, (-7, 2)), (3, ZERO), (0, half)))
        # Of however many figures.
        self.same(row_text(((0, (10 ** 5000, 1)),)), "0 1" + "0" * 5000)

    def test_row_by(self):
        for text, row in (("0 2/4", ((0, half),)), ("0 -2/4, 0 00", ((0, (-1, 2)), (0, ZERO))), ("7 0/5", ((7, ZERO),)), ("0 -0", ((0, ZERO),)),
                          ("12 " + "0" * 39 + "1", ((12, one),)), ("0 " + "9" * 40 + "/" + "9" * 40, ((0, one),))):
            self.gives(row, row_by, text=text)
        for text in ("", " ", "--", "- ", " -", "-, -", "0", "0 ", "0  1", " 0 1", "0 1 ", "0 1,", "0 1, ", "0 1,1 1", "0 1 , 1 1", "0 1,  1 1", ", 0 1", "00 1",
                     "01 1", "-1 1", "x 1", "0 x", "0 1/0", "0 1/00", "0 1/-2", "0 --1", "0 +1", "0 1.5", "0 1/", "0 /2", "0 1/2/3", "0 1 / 2", "1234567890 1",
                     "0 " + "1" * 41, "0 1/" + "1" * 41, "0 1\n", "0 1\n1 1", "\u0660 1", "0 \u0661", "0 1 1", "-, 0 1", "0 1, -", "0 -", "0 1|", "0 1_0"):
            self.same(self.raises(BadLine, row_by, text=text).line, 1, text)


def own_ratio(text):
    found = re.fullmatch(r"(-?)([0-9]{1,40})(?:/([0-9]{1,40}))?", text)
    if not found or found.group(3) is not None and int(found.group(3)) == 0:
        raise BadLine(1)
    x = Fraction(int(found.group(1) + found.group(2)), int(found.group(3) or 1))
    return (x.numerator, x.denominator)


def own_lists(text):
    return tuple(() if part == "-" else tuple(own_ratio(word) for word in part.split(" ")) for part in text.split(" | "))


def own_flows(text):
    if text == "-":
        return ()
    found = []
    for pair in text.split(", "):
        match = re.fullmatch(f"({N}) ({X})", pair)
        if not match:
            raise BadLine(1)
        found.append((int(match.group(1)), own_ratio(match.group(2))))
    return tuple(found)


class OwnDesk:
    """A desk by own reckoning: what each request does to a Board, by the words of the table."""

    def __init__(self):
        self.board = Board(1)

    def text_of(self, value):
        if value is True or value is False:
            return "yes" if value else "no"
        return "never" if value is None else str(value)

    def row(self, row):
        return " ".join(ratio_text(x) for x in row) or "-"

    def flows(self, row):
        return ", ".join(f"{part} {ratio_text(x)}" for part, x in row) or "-"

    def plan(self, text):
        plan = plan_by(text)
        if len(ways(plan)) > 1 or plan[0] != len(self.board.sheet()[0]):
            raise Unfit()
        return plan_table(plan, ways(plan)[0])

    def reply(self, request):
        try:
            return self.worked(request)
        except (BadLine, CanNot, NoPlace, NothingDone, TooMuch, Unfit) as e:
            return "refused " + type(e).__name__

    def worked(self, request):
        line, _, text = request.partition("\n")
        text = text.replace("\n ", "\n")[1:] if text else None
        word, _, rest = line.partition(" ")
        words, board = rest.split(" "), self.board
        numbers = [int(own) for own in words if re.fullmatch(N, own)]
        if word == "parts":
            if not 1 <= numbers[0] <= 4:
                raise Unfit()
            self.board = Board(numbers[0])
            return "done"
        if word in ("stage", "tell", "hang", "weigh", "drop", "leave", "scale", "make", "undo", "behind"):
            found = self.deed(board, word, rest, words, text)
            return "done" if found is None else str(found)
        if word == "sheet":
            matrices, tells = board.sheet()
            lines = [" | ".join(self.row(row) for row in rows) for rows in zip(*matrices)]
            return "\n".join(lines + ["tell " + " | ".join(self.row(row) for row in tell) for tell in tells]) or "-"
        if word == "tickets":
            return " ".join(map(str, board.tickets())) or "-"
        if word == "asks":
            return " ".join(f"{lot}.{part}" for lot, part in board.asks()) or "-"
        if word == "keeps":
            return self.text_of(board.keeps(int(words[0]), int(words[1]), words[2]))
        if word in ("order", "grows", "stays", "parted", "alike"):
            return self.text_of(getattr(board, word)(*numbers))
        if word == "like":
            table = self.plan(text)
            return self.text_of(is_alike(board.table(numbers[0]), table))
        if word == "run":
            h, lists = own_ratio(words[0]), own_lists(rest[len(words[0]) + 1:])
            if len(lists) != len(board.sheet()[0]):
                raise Unfit()
            change = tuple((tuple(((power,), x) for power, x in enumerate(row) if x[0]),) for row in lists)
            return ", ".join(ratio_text(state[0]) for state in run_of(board.sheet(), change, (ZERO,), h)) or "-"
        if word in ("normal", "undone"):
            row = own_flows(rest)
            return self.flows(normal_row(row if word == "normal" else row_turned(row)))
        first, _, second = rest.partition(" / ")
        row, other = own_flows(first), own_flows(second)
        return self.text_of(is_same(row, other) if word == "meet" else part_power(row, other))

    def deed(self, board, word, rest, words, text):
        if word == "stage":
            return board.add_stage(own_lists(rest))
        if word == "tell":
            return board.add_tell(own_lists(rest))
        if word in ("hang", "weigh"):
            x = own_ratio(words[3])
            return getattr(board, word)(*map(int, words[:3]), x)
        if word in ("drop", "leave"):
            return (board.drop_stage if word == "drop" else board.drop_tell)(int(words[0]))
        if word == "scale":
            return board.scale(own_ratio(rest))
        if word == "make":
            return board.make(rest)
        if word == "undo":
            return board.undo()
        return board.go_behind(self.plan(text))


class Requests(Case):

    def test_the_examples(self):
        self.gives(["0", "1", "0", "2", "0.0 1.0", "5/4", "0 0\n1/2 0\ntell 0 1"], desk,
                   text="stage -\nstage 1/2\ntell 0 1\norder 0 5\nasks\nrun 1 1 0 1\nsheet")
        self.gives(["refused Unfit", "0", "1", "0", "yes", "refused BadLine", "refused NoPlace", "done", "0 0\n1 0"], desk,
                   text="stage 1\nstage -\nstage 1\ntell 1/2 1/2\nlike 0\n" + HEUN + "\nweigh 0 0 1 x\nhang 0 0 5 1\nundo\nsheet")
        self.gives(["no", "2", "0 1", "1 -1/2, 0 -1"], desk,
                   text="meet 0 1, 1 1 / 1 1, 0 1\npart 0 1, 1 1 / 1 1, 0 1\nnormal 0 1/2, 0 2/4\nundone 0 1, 1 1/2")
        self.same(self.raises(BadLine, desk, text="sheet\nsheets").line, 2)
        self.gives([], desk, text="")

    def test_each_request(self):
        for text, replies in (
                ("sheet\ntickets\nasks", ["-"] * 3),
                ("tell -\nsheet\ntickets\nasks\nstays 0\nparted 0\ngrows 0", ["0", "tell -", "0", "-", "yes", "never", "no"]),
                ("parts 2\nsheet\nstage - | -\nstage 1/2 | -2/6\ntell 1 0 | 0 3\nsheet",
                 ["done", "-", "0", "1", "0", "0 0 | 0 0\n1/2 0 | -1/3 0\ntell 1 0 | 0 3"]),
                ("parts 2\ntell - | -\nsheet", ["done", "0", "tell - | -"]),
                ("stage -\nhang 0 0 0 1/2\ntell 1\ntell 1\nweigh 1 0 0 4/2\nleave 0\ntickets\nsheet\nscale -1/2\nsheet",
                 ["0", "done", "0", "1", "done", "done", "1", "1/2\ntell 2", "done", "-1/4\ntell -1"]),
                ("stage -\nstage 0\ndrop 0\nsheet", ["0", "1", "done", "0"]),
                ("stage -\nstage 1/2\ntell 0 1\nmake least\nmake lots\nmake order\nundo\nundo\nundo\nundo\ntickets",
                 ["0", "1", "0"] + ["done"] * 7 + ["-"]),
                ("stage -\nstage 1\ntell 1/2 1/2\nbehind\n parts 1\n m:\n   tell y + f0(y)\nsheet\nstays 0\nparted 0",
                 ["0", "1", "0", "done", "0 0 0\n1 0 0\n1 1 0\ntell 1 1/2 1/2", "no", "1"]),
                ("stage -\nstage 1/2\ntell 0 1\ntell 1/2 1/2\nalike 0 1\nalike 1 1\nkeeps 0 2 each\nkeeps 0 1 whole\norder 0 1\norder 0 9\ngrows 0",
                 ["0", "1", "0", "1", "no", "yes", "no", "yes", "1", "2", "yes"]),
                ("parts 2\nstage - | -\nstage 1 | 0\ntell 1 0 | 0 1\nasks\nkeeps 0 2 crosswise\nrun 1/2 1 | 0 1\nrun 1 - | -",
                 ["done", "0", "1", "0", "0.0 1.1", "no", "3/4", "0"]),
                ("stage -\ntell 1\ntell 1/2\nrun 2 1/3\nrun 0 5\nrun -1 2 1", ["0", "0", "1", "2/3, 1/3", "0, 0", "-2, -1"]),
                ("normal -\nnormal 0 1, 0 -1\nundone -\nnormal 7 2/4, 7 1/2, 3 0", ["-", "-", "-", "7 1"]),
                ("meet - / -\nmeet - / 0 0\npart - / 0 0\npart 5 1 / -\nmeet 0 1 / 0 2/2", ["yes", "yes", "never", "1", "yes"])):
            self.gives(replies, desk, text=text)

    def test_refused(self):
        ahead = "stage -\nstage 1\ntell 1/2 1/2\n"
        for request, name in (
                ("parts 0", "Unfit"), ("parts 5", "Unfit"), ("parts 999999999", "Unfit"), ("undo\nundo\nundo\nundo", "NothingDone"),
                ("stage 1", "Unfit"), ("stage 1 2 3", "Unfit"), ("stage 1 2 | 1 2", "Unfit"), ("stage -", "Unfit"), ("stage 1  2", "BadLine"),
                ("stage 1 2|1 2", "BadLine"), ("stage 1 2 |", "BadLine"), ("stage 1 2 | ", "BadLine"), ("stage 1,2", "BadLine"), ("stage - -", "BadLine"),
                ("stage 1 2 ", "BadLine"), ("stage  1 2", "BadLine"), ("stage 1/0 2", "BadLine"), ("tell 1", "Unfit"), ("tell 1 | 2", "Unfit"), ("tell 1 x", "BadLine"),
                ("hang 1 0 0 1", "NoPlace"), ("hang 0 2 0 1", "NoPlace"), ("hang 9 9 9 1/0", "BadLine"), ("hang 9 9 9 -", "BadLine"), ("drop 1", "CanNot"),
                ("drop 2", "NoPlace"), ("weigh 1 0 0 1", "NoPlace"), ("weigh 1 0 0 1.5", "BadLine"), ("leave 1", "NoPlace"), ("scale x", "BadLine"),
                ("scale 1/0", "BadLine"), ("scale " + "1" * 41, "BadLine"), ("order 1 2", "NoPlace"), ("keeps 1 2 each", "NoPlace"),
                ("keeps 0 2 crosswise", "Unfit"), ("keeps 1 2 crosswise", "NoPlace"), ("grows 1", "NoPlace"), ("stays 1", "NoPlace"), ("parted 1", "NoPlace"),
                ("alike 0 1", "NoPlace"), ("alike 1 0", "NoPlace"), ("run 1 1 | 1", "Unfit"), ("run x 1 | 1", "BadLine"), ("run 1 1 | x", "BadLine"),
                ("run 1/0 1", "BadLine"), ("run 1  1", "BadLine"), ("normal 0", "BadLine"), ("normal 0 1,", "BadLine"), ("undone x", "BadLine"),
                ("meet 0 1 / x", "BadLine"), ("meet x / 0 1", "BadLine"), ("meet - / - / -", "BadLine"), ("part 0 1/0 / -", "BadLine"), ("part - / 0 1 ", "BadLine"),
                # Of what is wrong the first counts: the text, the WAYS and parts, then the ticket.
                ("behind\n x", "BadLine"), ("behind\n ", "BadLine"), ("behind\n" + FORK, "Unfit"), ("behind\n" + HEUN.replace("parts 1", "parts 2"), "Unfit"),
                ("like 7\n x", "BadLine"), ("like 7\n" + FORK, "Unfit"), ("like 7\n" + HEUN.replace("parts 1", "parts 3"), "Unfit"), ("like 7\n" + HEUN, "NoPlace")):
            replies = desk(ahead + request + "\nsheet\ntickets")
            found = replies[3:-2]
            self.same(found[-1], "refused " + name, request)
            if "undo" not in request:
                # Nothing is changed.
                self.same(replies[-2:], ["0 0\n1 0\ntell 1/2 1/2", "0"], request)
        # make order, and a run, of what must be solved; grows of two parts.
        self.gives(["0", "done", "0", "refused CanNot", "refused CanNot", "2", "0", "no"], desk,
                   text="stage -\nhang 0 0 0 1/2\ntell 1\nmake order\nrun 1 0 1\nrun 2 1\nrun 1 -\ngrows 0")
        self.gives(["done", "0", "refused Unfit", "yes", "refused Unfit", "done"], desk,
                   text="parts 2\ntell - | -\ngrows 0\nkeeps 0 3 whole\ntell -\nundo")

    def test_parts_begins_anew(self):
        self.gives(["0", "done", "-", "refused NothingDone", "0", "refused Unfit", "0 | 0"], desk,
                   text="stage -\nparts 2\nsheet\nundo\nstage - | -\nparts 7\nsheet")

    def test_texts(self):
        # The empty text, a line of blanks; an empty line ahead, behind, or between.
        self.gives(["0", "refused BadLine", "refused BadLine", "tell -"], desk, text="tell -\nbehind\n \nbehind\n  \nsheet")
        for text in (" \n" + HEUN, HEUN + "\n ", HEUN.replace("\n heun", "\n \n heun"), HEUN.replace("\n   tell", "\n \n   tell")):
            self.gives(["0", "refused BadLine", "refused BadLine", "done", "0 0\n1 0\ntell 1/2 1/2", "yes"], desk,
                       text="tell -\nbehind\n" + text + "\nlike 7\n" + text + "\nbehind\n" + HEUN + "\nsheet\nlike 0\n" + HEUN)
        # Blanks belong to the text but for one.
        self.gives(["refused BadLine"], desk, text="behind\n" + HEUN.replace("\n ", "\n  "))
        self.gives(["done"], desk, text="behind\n" + HEUN)
        for seed in range(10):
            table = some_table(seed, 1, seed % 4)
            lines = plan_text(plan_of(sheet_of(table))).replace("\n", "\n ")
            self.same(desk("tell -\nbehind\n " + lines + "\nlike 0\n " + lines)[-1], "yes")

    def test_bad_line_before_all_else(self):
        for line, text in ((1, "\n"), (1, " sheet"), (1, " "), (2, "sheet\n"), (2, "sheet\n\nsheet"), (1, "sheet\n x\nsheets"), (1, "behind\nsheet"),
                           (3, "sheet\nsheet\nlike 0\nsheet"), (2, "sheet\nbehind"), (4, "behind\n x\n y\nsheet "), (2, "parts 9\nundo 1"),
                           (5, "stage -\nlike 0\n x\n\x20\nlike 0"), (2, "undo\nundo\n text"), (1, "x"), (3, "sheet\nsheet\n"), (2, "sheet\n\n")):
            self.same(self.raises(BadLine, desk, text=text).line, line, text)

    def test_first_slash_parts(self):
        self.gives(["refused BadLine", "refused BadLine"], desk, text="meet 0 1 / 0 1 / 0 1\npart x / 0 1 / 0 1")
        self.same(self.raises(BadLine, desk, text="part  / 0 1").line, 1)

    def test_beside_own_reckoning(self):
        source = random.Random(8)
        seen = {}
        for seed in range(60):
            parts = source.randint(1, 2)
            requests = [f"parts {parts}", "stage " + " | ".join(["-"] * parts), "stage " + " | ".join(["1/2"] * parts),
                        "tell " + " | ".join(["0 1"] * parts), "tell " + " | ".join(["1/2 1/2"] * parts)]
            for _ in range(30):
                requests.append(self.draw(source))
            own = OwnDesk()
            expected = [own.reply(request) for request in requests]
            found = desk("\n".join(requests))
            self.same(found, expected)
            for request, reply in zip(requests, found):
                key = request.split()[0], reply.startswith("refused")
                seen[key] = seen.get(key, 0) + 1
        self.assertTrue(all((word, False) in seen for word in {shape.split()[0] for shape in GOOD}), seen)

    def draw(self, source):
        def n(most=2):
            return str(source.randint(0, most))

        def x():
            return source.choice(("0", "1", "-1/2", "2/4", "3", "1/3", "0/7", "x", "1/0", "-")) if source.random() < 0.3 else source.choice(("1", "1/2", "-2"))

        def lists():
            return " | ".join(" ".join(x() for _ in range(count)) or "-" for count in [source.randint(0, 2)] * source.randint(1, 2))

        def flows():
            return ", ".join(n() + " " + x() for _ in range(source.randint(0, 3))) or "-"
        text = source.choice((HEUN, HEUN.replace("parts 1", "parts 2"), FORK, " x", " ", " parts 1\n m:\n   tell y"))
        word = source.choice([own.split()[0] for own in GOOD if not own.startswith("parts")] + ["stage", "tell", "hang", "weigh"] * 2)
        return {"stage": f"stage {lists()}", "hang": f"hang {n(1)} {n()} {n()} {x()}", "drop": f"drop {n()}", "tell": f"tell {lists()}",
                "weigh": f"weigh {n()} {n(1)} {n()} {x()}", "leave": f"leave {n(4)}", "scale": f"scale {x()}",
                "make": "make " + source.choice(("least", "lots", "order")), "undo": "undo", "behind": "behind\n" + text, "sheet": "sheet",
                "tickets": "tickets", "order": f"order {n()} {source.randint(1, 4)}", "keeps": f"keeps {n()} {source.randint(1, 3)} " + source.choice(("each", "whole", "crosswise")),
                "asks": "asks", "grows": f"grows {n()}", "stays": f"stays {n()}", "parted": f"parted {n()}", "alike": f"alike {n()} {n()}",
                "like": f"like {n()}\n" + text, "run": f"run {x()} {lists()}", "normal": f"normal {flows()}", "undone": f"undone {flows()}",
                "meet": f"meet {flows()} / {flows()}", "part": f"part {flows()} / {flows()}"}[word]

    def test_equal_calls(self):
        text = "\n".join(itertools.chain(["stage -", "tell 1", "sheet"] * 2))
        self.same(desk(text), desk(text))
        self.gives(desk(text), desk, text=text)


if __name__ == "__main__":
    unittest.main()
