"""The shortest WORDS that have a worth in a ROW, or another worth than in the flow of all parts together."""

from math import factorial

from everychange.ratios import ONE, ZERO, lowest, whole_row
from everychange.spans import Span


class Worths:
    """Worths of WORDS in ROWS, one letter after another: whole numbers, those of WORDS of one length times one number.

    First comes 1 / (length)!, then, for each pair of the last letter and each number from 1 to length, the sum over the
    cuts in which the last piece that is not empty is at this pair and has so many letters.
    """

    def __init__(self, rows, shares, flow):
        numbers = whole_row([ONE] + [x for row in rows for _, x in row])
        parts = [part for row in rows for part, x in row]
        firsts = [at == 0 for row in rows for at in range(len(row))]
        weighed = whole_row([flow] + [share for row, share in zip(rows, shares) for _ in row])
        self.step, self.flow = numbers[0], weighed[0]
        self.pairs = list(zip(parts, numbers[1:], firsts, weighed[1:]))

    def further(self, word, worths, letter):
        """The worths of the WORD with this letter behind it, from those of the WORD."""
        length, last = len(word), word[-1] if word else None
        common = factorial(length + 1)
        longer, ahead, at = [worths[0] * self.step * factorial(length)], 0, 1
        for part, size, is_first, _ in self.pairs:
            if is_first:
                ahead = 0 if word else 1
            own = [0] * length
            if part == last:
                own = worths[at:at + length]
                at += length
            if part == letter:
                longer.append(ahead * size * common)
                longer.extend([worth * size * (common // (many + 2)) for many, worth in enumerate(own)])
            ahead = ahead + sum(own)
        return lowest(longer)

    def total(self, word, worths):
        """The sum of the worths in the ROWS, each times its share, and of flow / (length)!, times some number."""
        total, at = self.flow * worths[0], 1
        for part, _, _, share in self.pairs:
            if part == word[-1]:
                total = total + share * sum(worths[at:at + len(word)])
                at += len(word)
        return total


def first_unlike(rows, shares, letters, flow):
    """The least of the shortest WORDS, other than (), of which the total is not 0; there is one."""
    adding = Worths(rows, shares, flow)
    words = [((), [1])]
    while True:
        spans, further = {letter: Span() for letter in letters}, []
        for word, worths in words:
            for letter in letters:
                longer, more = word + (letter,), adding.further(word, worths, letter)
                if adding.total(longer, more) != 0:
                    return longer
                # If its worths are sums of those of lesser WORDS, one of these goes on to a total before it does.
                if spans[letter].takes(more):
                    further.append((longer, more))
        words = further


def first_word(row):
    """The least of the shortest WORDS, other than (), that have a worth other than 0 in a normal ROW, not ()."""
    return first_unlike([row], [ONE], sorted(set([part for part, x in row])), ZERO)
