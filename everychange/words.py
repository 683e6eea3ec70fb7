"""The shortest WORDS that have a worth in a ROW, behind parting.py."""

from math import factorial

from everychange.ratios import lowest, whole_row
from everychange.spans import Span


def _with_letter(pairs, length, worths, letter):
    """The worths of the WORD of this length with this letter behind it, times some number, the same for all WORDS.

    worths tell, for each pair and each number from 1 to length, the sum over the cuts in which the last piece that is
    not empty is at this pair and has so many letters.
    """
    common = factorial(length + 1)
    further, ahead = [], 0 if length else 1
    for at, (part, size) in enumerate(pairs):
        own = worths[at * length:(at + 1) * length]
        if part == letter:
            further.append(ahead * size * common)
            further.extend([worth * size * (common // (many + 2)) for many, worth in enumerate(own)])
        else:
            further.extend([0] * (length + 1))
        ahead = ahead + sum(own)
    return lowest(further)


def first_word(row):
    """The least of the shortest WORDS, other than (), that have a worth other than 0 in a normal ROW, not ()."""
    parts = [part for part, x in row]
    pairs = list(zip(parts, whole_row([x for part, x in row])))
    words, length = [((), [])], 0
    while True:
        span, further = Span(), []
        for word, worths in words:
            for letter in sorted(set(parts)):
                longer = _with_letter(pairs, length, worths, letter)
                if sum(longer) != 0:
                    return word + (letter,)
                # Of WORDS whose worths add up to those of this one some would go on to a worth before it does.
                if span.takes(longer):
                    further.append((word + (letter,), longer))
        words, length = further, length + 1
