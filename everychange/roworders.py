"""ROWS of every order, and the MARKS that tell all worths of short WORDS, point [10]."""

from math import factorial

from everychange.errors import Unfit
from everychange.flowrows import is_flowrow, least_order, normal_row, row_joined, row_sums, row_turned
from everychange.letters import is_lyndon, lyndon_count, lyndon_words, shuffles
from everychange.parting import word_worth
from everychange.plain import frozen
from everychange.ratios import ONE, ZERO, minus, over, plus, power_of, times, whole
from everychange.tables import row_sum
from everychange.words import first_unlike

POWER_OF_ONE = 6


def _power_of(marks, many):
    """The power that the length of MARKS tells."""
    if many == 1:
        if len(marks) != 1:
            raise Unfit()
        return POWER_OF_ONE
    power, counted = 0, 0
    while counted < len(marks):
        power += 1
        counted += lyndon_count(many, power)
    if power == 0 or counted > len(marks):
        raise Unfit()
    return power


def marks_of(row, many, power):
    """The MARKS of row."""
    return tuple([word_worth(row, word) for word in lyndon_words(many, power)])


def whole_marks(many, power):
    """The MARKS of what all parts together lead to."""
    return tuple([(1, factorial(len(word))) for word in lyndon_words(many, power)])


def _known_worths(marks, many, power):
    """The worths that MARKS tell straight, by their WORDS."""
    known = {(): ONE}
    for word, mark in zip(lyndon_words(many, power), frozen(marks)):
        known[word] = mark
    return known


def _worth_from(known, word):
    """The worth of word, which is also added to those that are known."""
    if word not in known:
        # Of the WORDS that come of laying its first Lyndon factor and the rest together it is the greatest.
        length = max([at for at in range(1, len(word)) if is_lyndon(word[:at])])
        total = times(_worth_from(known, word[:length]), _worth_from(known, word[length:]))
        often = ONE
        for other, ways in shuffles(word[:length], word[length:]):
            if other == word:
                often = whole(ways)
            else:
                total = minus(total, times(whole(ways), _worth_from(known, other)))
        known[word] = over(total, often)
    return known[word]


def worth_by(marks, many, word):
    """The worth of word in ROWS with these MARKS."""
    power = _power_of(marks, many)
    if len(word) > power:
        raise Unfit()
    return _worth_from(_known_worths(marks, many, power), frozen(word))


def joined_marks(marks, others, many):
    """The MARKS of a ROW with marks followed by one with others."""
    power = _power_of(marks, many)
    if len(marks) != len(others):
        raise Unfit()
    ahead, behind = _known_worths(marks, many, power), _known_worths(others, many, power)
    found = []
    for word in lyndon_words(many, power):
        total = ZERO
        for at in range(len(word) + 1):
            total = plus(total, times(_worth_from(ahead, word[:at]), _worth_from(behind, word[at:])))
        found.append(total)
    return tuple(found)


def order_of(row, many):
    """The greatest order of row; None if it is of every order."""
    return mix_order(((row, ONE),), many)


def _go_all_together(many, meets):
    return all([(part, other) in meets for other in range(many) for part in range(other)])


def order_with(row, many, meets):
    """The greatest order of row if parts go together as in meets; None if it is of every order."""
    meets = frozen(meets)
    if _go_all_together(many, meets):
        return None if row_sums(row, many) == (ONE,) * many else 0
    power, flow = 1, _further_flow({(): ONE}, many, meets, 1)
    while _class_worths(row, meets, power) == flow:
        power += 1
        flow = _further_flow(flow, many, meets, power)
    return power - 1


def _least_word(word, meets):
    """The least WORD to which neighbours that go together lead by changing places: one for each class of WORDS."""
    return tuple([word[at] for at in least_order(word, meets)])


def _add_worth(worths, word, x):
    worths[word] = plus(worths.get(word, ZERO), x)


def _further_flow(flow, many, meets, length):
    """For each class of WORDS of this length the sum of their worths in the flow, which is told to 1 letter less."""
    longer = {}
    for word, worth in flow.items():
        for letter in range(many):
            _add_worth(longer, _least_word(word + (letter,), meets), over(worth, whole(length)))
    return longer


def _class_worths(row, meets, length):
    """For each class of WORDS of this length the sum, other than 0, of their worths in row."""
    found = {(): ONE}
    for part, x in row:
        further = {}
        for word, worth in found.items():
            longer, share = word, worth
            _add_worth(further, longer, share)
            for many in range(1, length - len(word) + 1):
                longer, share = _least_word(longer + (part,), meets), times(share, over(x, whole(many)))
                _add_worth(further, longer, share)
        found = further
    return {word: found[word] for word in found if len(word) == length and found[word][0]}


def commutator_row(word):
    """The ROW whose MARKS up to the length of word are 0 before word, 1 at it."""
    return _commutator(frozen(word), ONE)


def _commutator(word, x):
    """The commutator_row with the FRACTION x in the place of 1 at its first letter: it has the mark x at word."""
    if len(word) == 1:
        return ((word[0], x),)
    at = min([place for place in range(1, len(word)) if is_lyndon(word[place:])])
    first, last = _commutator(word[:at], x), _commutator(word[at:], ONE)
    return first + last + row_turned(first) + row_turned(last)


def row_for(many, marks):
    """A ROW that has these MARKS."""
    power = _power_of(marks, many)
    row = ()
    for word, mark in zip(lyndon_words(many, power), marks):
        # What is joined changes no mark before this one.
        missing = minus(mark, word_worth(row, word))
        row = normal_row(row_joined(row, _commutator(word, missing)))
    return row


def row_of_order(many, power):
    """A ROW of order power or more."""
    return row_for(many, whole_marks(many, power))


def is_row_for(many, marks, thing):
    """Whether thing is a ROW of parts less than many that has these MARKS."""
    power = _power_of(marks, many)
    if not is_flowrow(thing) or not all([part < many for part, x in thing]):
        return False
    return marks_of(thing, many, power) == frozen(marks)


def mix_order(mix, many):
    """The greatest order of the MIX; None if it is of every order."""
    shares = [share for row, share in mix]
    if row_sum(shares) != ONE:
        raise Unfit()
    if many == 1:
        return _order_of_sums([row_sums(row, 1)[0] for row, share in mix], shares)
    return len(first_unlike([row for row, share in mix], shares, list(range(many)), (-1, 1))) - 1


def _order_of_sums(sums, shares):
    """The greatest order of a MIX that follows one part for these sums; None if it is of every order."""
    # As many powers as there are unlike sums, and 1, tell what stands before each.
    for power in range(1, len(sums) + 1):
        total = ZERO
        for x, share in zip(sums, shares):
            total = plus(total, times(share, power_of(x, power)))
        if total != ONE:
            return power - 1
    return None
