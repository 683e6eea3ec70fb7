"""Lines of a PLAN's text: how they are read, and which STEPS come of their SUMS, point [5]."""

from everychange.errors import BadLine
from everychange.plans import FIGURES, LETTERS, is_name
from everychange.ratios import ONE, fraction, is_figures, over, times, whole

DEEPEST = 20
LONGEST_DIGITS = 40
NAME = "name"
SUM = "sum"
ASK = "ask"


def _part_by(word):
    """The part that is asked if this word stands ahead of a bracket, None if there is none."""
    figures = word[1:]
    if not word.startswith("f") or not is_figures(figures) or len(figures) > LONGEST_DIGITS:
        return None
    return int(figures) if figures == "0" or figures[0] != "0" else None


class Line:
    """A line that is read from left to right; BadLine of its number is raised where it goes wrong.

    A SUM is read as a list of terms (FRACTION, is bare, atom): bare if nothing but the atom stands there. An atom is
    (NAME, name), (SUM, terms) or (ASK, part, terms).
    """

    def __init__(self, text, number):
        self.text = text
        self.number = number
        self.at = 0
        self.depth = 0

    def fails(self):
        """Raises BadLine of this line."""
        raise BadLine(self.number)

    def has(self, signs):
        """Whether these signs stand here."""
        return self.text.startswith(signs, self.at)

    def skips(self, signs):
        """Whether these signs stand here; then goes behind them."""
        found = self.has(signs)
        if found:
            self.at += len(signs)
        return found

    def needs(self, signs):
        """Goes behind these signs, which must stand here."""
        if not self.skips(signs):
            self.fails()

    def ends(self):
        """Nothing may stand here any more."""
        if self.at < len(self.text):
            self.fails()

    def has_figure(self):
        """Whether a digit stands here."""
        return self.at < len(self.text) and self.text[self.at] in FIGURES

    def run(self, signs):
        """Goes behind all of these signs that stand here, and returns them."""
        start = self.at
        while self.at < len(self.text) and self.text[self.at] in signs:
            self.at += 1
        return self.text[start:self.at]

    def word(self):
        """Goes behind letters and digits, and returns them."""
        return self.run(LETTERS + FIGURES)

    def name(self):
        """The NAME that must stand here."""
        word = self.word()
        if not is_name(word):
            self.fails()
        return word

    def digits(self):
        """The number that must stand here in digits, not only 0."""
        figures = self.run(FIGURES)
        if not 1 <= len(figures) <= LONGEST_DIGITS or int(figures) == 0:
            self.fails()
        return int(figures)

    def ratio(self):
        """The fraction that must stand here."""
        top = self.digits()
        return fraction(top, self.digits()) if self.skips("/") else whole(top)

    def terms(self):
        """The SUM that must stand here."""
        if self.has_figure():
            start = self.at
            if self.run(FIGURES) == "0":
                return []
            self.at = start
        found = [self.term(-1 if self.skips("-") else 1)]
        while True:
            if self.skips(" + "):
                found.append(self.term(1))
            elif self.skips(" - "):
                found.append(self.term(-1))
            else:
                return found

    def term(self, sign):
        """The term that must stand here, times the sign."""
        share, bare = whole(sign), sign == 1
        if self.has_figure():
            share, bare = times(share, self.ratio()), False
            self.needs("*")
        atom = self.atom()
        if self.skips("/"):
            share, bare = over(share, whole(self.digits())), False
        return (share, bare, atom)

    def atom(self):
        """The NAME, SUM in brackets or ask that must stand here."""
        if self.has("("):
            return (SUM, self.in_brackets())
        word = self.word()
        part = _part_by(word)
        if part is not None and self.has("("):
            return (ASK, part, self.in_brackets())
        if not is_name(word):
            self.fails()
        return (NAME, word)

    def in_brackets(self):
        """The SUM in brackets that must stand here."""
        self.needs("(")
        self.depth += 1
        if self.depth > DEEPEST:
            self.fails()
        found = self.terms()
        self.needs(")")
        self.depth -= 1
        return found

    def pace(self):
        """The X behind over, 1 if there is none."""
        if not self.skips(" over "):
            return ONE
        sign = whole(-1 if self.skips("-") else 1)
        return times(sign, self.ratio())


class FreshNames:
    """Names t0, t1, .. that are no words of a text."""

    def __init__(self, text):
        self.words = {}
        self.made = {}
        self.following = 0
        line = Line(text, 1)
        while line.at < len(text):
            self.words[line.word()] = True
            line.at += 1

    def further(self):
        """The next one."""
        while "t" + str(self.following) in self.words:
            self.following += 1
        name = "t" + str(self.following)
        self.following += 1
        self.made[name] = True
        return name

    def is_made(self, name):
        """Whether the name was set ahead; then no line of the text can use it."""
        return name in self.made


class LineSteps:
    """The STEPS that come of one line: names for what must be one are set ahead."""

    def __init__(self, fresh):
        self.fresh = fresh
        self.steps = []

    def flat(self, share, terms):
        """The terms multiplied out, share times them; what is asked there is set ahead."""
        found = []
        for own, _, atom in terms:
            x = times(share, own)
            if atom[0] == NAME:
                found.append((x, atom[1]))
            elif atom[0] == SUM:
                found.extend(self.flat(x, atom[1]))
            else:
                point = self.name_of(atom[2])
                found.append((x, self.sets_ask(self.fresh.further(), atom[1], point)))
        return found

    def sets_ask(self, name, part, point):
        """Sets name by an ask."""
        self.steps.append(("ask", name, part, point))
        return name

    def name_of(self, terms):
        """The NAME that the SUM is, or that is set ahead to it."""
        if len(terms) == 1 and terms[0][1] and terms[0][2][0] == NAME:
            return terms[0][2][1]
        return self.sets_sum(None, terms)

    def sets_sum(self, name, terms):
        """Sets name, or a fresh one for None, to the SUM."""
        if len(terms) == 1 and terms[0][1] and terms[0][2][0] == ASK:
            _, part, inner = terms[0][2]
            point = self.name_of(inner)
            return self.sets_ask(self.fresh.further() if name is None else name, part, point)
        flat = tuple(self.flat(ONE, terms))
        name = self.fresh.further() if name is None else name
        self.steps.append(("mix", name, flat))
        return name


def steps_of_line(line, fresh):
    """The STEPS of a line that opens no block."""
    laid = LineSteps(fresh)
    if line.skips("tell "):
        terms = line.terms()
        laid.steps.append(("tell", laid.name_of(terms)))
    else:
        name = line.name()
        line.needs(" = ")
        start = line.at
        if line.skips("back "):
            _back_of_line(line, laid, name)
        elif is_name(line.word()) and line.has("("):
            line.at = start
            _call_of_line(line, laid, name)
        else:
            line.at = start
            laid.sets_sum(name, line.terms())
    line.ends()
    return laid.steps


def _back_of_line(line, laid, name):
    title = line.name()
    point = laid.name_of(line.in_brackets())
    laid.steps.append(("back", name, title, line.pace(), point))


def _call_of_line(line, laid, name):
    title = line.name()
    point = laid.name_of(line.in_brackets())
    x = line.pace()
    many = line.digits() if line.skips(" times ") else 1
    laid.steps.append(("call", name, title, x, many, point))
