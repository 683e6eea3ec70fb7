"""The shortest WORDS that have a worth in a ROW, or another worth than in the flow of all parts together."""

from math import factorial

from everychange.ratios import ONE, ZERO, lowest, whole_row
from everychange.spans import Span


class Worths:
    """Worths of WORDS in ROWS, one letter after another: whole numbers, those of WORDS of one length times one number.

    First comes 1 / (length)!, then, for each pair of the ROWS and each number from 1 to length, the sum over the cuts
    in which the last piece that is not empty is at this pair and has so many letters.
    """

    def __init__(self, rows, shares, flow):
        numbers = whole_row([ONE] + [x for row in rows for _, x in row])
        parts = [part for row in rows for part, x in row]
        firsts = [at == 0 for row in rows for at in range(len(row))]
        self.step = numbers[0]
        self.pairs = list(zip(parts, numbers[1:], firsts))
        self.shares = whole_row([flow] + [share for row, share in zip(rows, shares) for _ in row])

    def further(self, worths, length, letter):
        """The worths of the WORD with this letter behind it, from those of the WORD, of this length."""
        common = factorial(length + 1)
        longer, ahead = [worths[0] * self.step * factorial(length)], 0
        for at, (part, size, is_first) in enumerate(self.pairs):
            own = worths[1 + at * length:1 + (at + 1) * length]
            if is_first:
                ahead = 0 if length else 1
            if part == letter:
                longer.append(ahead * size * common)
                longer.extend([worth * size * (common // (many + 2)) for many, worth in enumerate(own)])
            else:
                longer.extend([0] * (length + 1))
            ahead = ahead + sum(own)
        return lowest(longer)

    def total(self, worths, length):
        """The sum of the worths in the ROWS, each times its share, and of flow / (length)!, times some number."""
        total = self.shares[0] * worths[0]
        for at, share in enumerate(self.shares[1:]):
            total = total + share * sum(worths[1 + at * length:1 + (at + 1) * length])
        return total


def first_unlike(rows, shares, letters, flow):
    """The least of the shortest WORDS, other than (), of which the total is not 0; there is one."""
    adding = Worths(rows, shares, flow)
    words, length = [((), [1])], 0
    while True:
        span, further = Span(), []
        for word, worths in words:
            for letter in letters:
                longer = adding.further(worths, length, letter)
                if adding.total(longer, length + 1) != 0:
                    return word + (letter,)
                # If its worths are sums of those of lesser WORDS, one of these goes on to a total before it does.
                if span.takes(longer):
                    further.append((word + (letter,), longer))
        words, length = further, length + 1


def first_word(row):
    """The least of the shortest WORDS, other than (), that have a worth other than 0 in a normal ROW, not ()."""
    return first_unlike([row], [ONE], sorted(set([part for part, x in row])), ZERO)
