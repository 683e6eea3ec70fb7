"""The words of requests at a desk: which shape they have, and which values they tell, point [25]."""

from everychange.errors import BadLine
from everychange.ratios import fraction, is_figures, ratio_text

LONGEST_NUMBER = 9
LONGEST_DIGITS = 40
MADE = ("least", "lots", "order")
WAYS = ("each", "whole", "crosswise")
BEHIND_SLASH = " / "
# What stands behind the first word of a request: N a number, X a fraction, M a word of make, W a way, S all to a slash,
# L all to the end of the line.
FORMS = {"parts": "N", "stage": "L", "hang": "NNNX", "drop": "N", "tell": "L", "weigh": "NNNX", "leave": "N",
         "scale": "X", "make": "M", "undo": "", "behind": "", "sheet": "", "tickets": "", "order": "NN", "keeps": "NNW",
         "asks": "", "grows": "N", "stays": "N", "parted": "N", "alike": "NN", "like": "N", "run": "XL", "normal": "L",
         "undone": "L", "meet": "SL", "part": "SL"}
WITH_TEXT = ("behind", "like")


def _is_number_text(text):
    if not is_figures(text) or len(text) > LONGEST_NUMBER:
        return False
    return len(text) == 1 or text[0] != "0"


def _has_form(form, field):
    """Whether the field has the form that this letter tells."""
    if form == "N":
        return _is_number_text(field)
    if form == "M":
        return field in MADE
    if form == "W":
        return field in WAYS
    if form == "X":
        return field != "" and " " not in field
    return field != ""


def _parted(form, rest):
    """(field, what stands behind it, whether a sign parted them)."""
    if form == "L":
        return rest, "", False
    field, sign, behind = rest.partition(BEHIND_SLASH if form == "S" else " ")
    return field, behind, sign != ""


def fields_of(line):
    """The list of the word of a request and what stands behind it; None if the line begins no request."""
    word, blank, rest = line.partition(" ")
    if word not in FORMS:
        return None
    found, goes_on = [word], blank != ""
    for form in FORMS[word]:
        if not goes_on:
            return None
        field, rest, goes_on = _parted(form, rest)
        if not _has_form(form, field):
            return None
        found.append(field)
    return None if goes_on else found


def requests_of(text):
    """The list of pairs (fields, text or None) of the requests; BadLine at the first one that is none."""
    found = []
    lines = text.split("\n")
    starts = [at for at, line in enumerate(lines) if at == 0 or not line.startswith(" ")]
    for at, after in zip(starts, starts[1:] + [len(lines)]):
        fields, below = fields_of(lines[at]), [line[1:] for line in lines[at + 1:after]]
        if fields is None or (fields[0] in WITH_TEXT) != (len(below) > 0):
            raise BadLine(at + 1)
        found.append((fields, "\n".join(below)))
    return found


def ratio_of(text):
    """The FRACTION of an X; BadLine(1) if it is none."""
    sign, unsigned = (-1, text[1:]) if text.startswith("-") else (1, text)
    top, slash, bottom = unsigned.partition("/")
    if not slash:
        bottom = "1"
    for figures in (top, bottom):
        if not is_figures(figures) or len(figures) > LONGEST_DIGITS:
            raise BadLine(1)
    if int(bottom) == 0:
        raise BadLine(1)
    return fraction(sign * int(top), int(bottom))


def list_of(text):
    """The row of a LIST; BadLine(1) if it is none."""
    if text == "-":
        return ()
    return tuple([ratio_of(word) for word in text.split(" ")])


def lists_of(text):
    """The rows of LISTS; BadLine(1) if they are none."""
    return tuple([list_of(part) for part in text.split(" | ")])


def flows_of(text):
    """The ROW of FLOWS; BadLine(1) if they are none."""
    if text == "-":
        return ()
    found = []
    for pair in text.split(", "):
        part, blank, x = pair.partition(" ")
        if not _is_number_text(part) or not blank:
            raise BadLine(1)
        found.append((int(part), ratio_of(x)))
    return tuple(found)


def flows_text(row):
    """The FLOWS of a ROW."""
    return ", ".join([str(part) + " " + ratio_text(x) for part, x in row]) if row else "-"
