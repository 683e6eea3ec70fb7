"""WORDS: which are Lyndon, and how they are laid together, point [10]."""

from everychange.plain import is_count


def is_word(thing, many):
    """Whether thing is a WORD of many."""
    return isinstance(thing, tuple) and all([is_count(letter) and letter < many for letter in thing])


def is_lyndon(word):
    """Whether word is less than each of its ends that begin behind its first letter; () is none."""
    return len(word) > 0 and all([word < word[at:] for at in range(1, len(word))])


def lyndon_words(many, power):
    """The list of the Lyndon WORDS of at most power letters, by length, then ascending."""
    found, word = [], [-1]
    while word:
        word[-1] += 1
        length = len(word)
        found.append((length, tuple(word)))
        # The next one in the order of words alone: repeated to the full length, raised at its last place that can be.
        while len(word) < power:
            word.append(word[-length])
        while word and word[-1] == many - 1:
            word.pop()
    return [own for _, own in sorted(found)]


def lyndon_count(many, length):
    """How many Lyndon WORDS have this length."""
    counts, words = [0], 1
    for letters in range(1, length + 1):
        words = words * many
        # Each WORD is, in one way, some rounds of a Lyndon WORD begun at one of its letters.
        rounds = sum([done * counts[done] for done in range(1, letters) if letters % done == 0])
        counts.append((words - rounds) // letters)
    return counts[length]


def shuffles(word, other):
    """The ascending tuple of pairs (WORD, in how many ways the letters of both are laid together so)."""
    ahead = [{} for _ in range(len(other) + 1)]
    ahead[0][()] = 1
    for at in range(len(word) + 1):
        for k in range(len(other) + 1):
            # Here ahead[k] has the ways of the first at letters of word with the first k of other.
            here = {}
            if at:
                _add_letter(here, ahead[k], word[at - 1])
            if k:
                _add_letter(here, ahead[k - 1], other[k - 1])
            if at or k:
                ahead[k] = here
    return tuple([(own, ahead[-1][own]) for own in sorted(ahead[-1])])


def _add_letter(found, ways, letter):
    """Adds to found the ways with this letter behind them."""
    for word, many in ways.items():
        longer = word + (letter,)
        found[longer] = found.get(longer, 0) + many
