import itertools
import unittest
from collections import Counter

from everychange.letters import is_lyndon, is_word, lyndon_count, lyndon_words, shuffles
from everychange.parting import word_worth
from tests.helpers import Case, bent, pair, ratio
from tests.test_flowrows import some_row


def looks_lyndon(word):
    """The one least of its turned WORDS, and none of them equal to it."""
    turned = [word[at:] + word[:at] for at in range(len(word))]
    return bool(word) and turned.count(word) == 1 and min(turned) == word


def all_words(many, length):
    return list(itertools.product(range(many), repeat=length))


def looks_shuffled(word, other):
    """All ways to lay two WORDS together, one by one."""
    length, found = len(word) + len(other), Counter()
    for places in itertools.combinations(range(length), len(word)):
        mine, others = iter(word), iter(other)
        found[tuple(next(mine) if at in places else next(others) for at in range(length))] += 1
    return tuple(sorted(found.items()))


class Words(Case):

    def test_is_word(self):
        self.is_one(is_word, [(), (0,), (1, 0, 1), (0,) * 300], many=2)
        self.is_one(is_word, [(), (0, 0)], many=1)
        self.is_one(is_word, [(3, 2, 1, 0)], many=4)
        self.is_none(is_word, [None, 0, "", "01", [], [0], (2,), (0, 1, 2), (-1,), (True,), (0, False), ((0,),), (None,),
                               ((0, 1),)], many=2)
        self.only_unbent(is_word, (1, 0, 2), many=3)
        self.is_none(is_word, list(bent(())), many=4)

    def test_is_lyndon(self):
        for many, most in ((1, 8), (2, 8), (3, 5), (4, 4)):
            for length in range(most + 1):
                for word in all_words(many, length):
                    self.assertIs(is_lyndon(word), looks_lyndon(word), word)
        self.gives(False, is_lyndon, word=())
        self.gives(True, is_lyndon, word=(3,))
        self.gives(True, is_lyndon, word=(0, 0, 1, 0, 1))
        self.gives(False, is_lyndon, word=(0, 1, 0, 1))
        self.gives(False, is_lyndon, word=(1, 0))

    def test_lyndon_words(self):
        self.gives([(0,), (1,), (0, 1), (0, 0, 1), (0, 1, 1)], lyndon_words, many=2, power=3)
        for many, most in ((1, 6), (2, 6), (3, 4), (4, 3)):
            for power in range(1, most + 1):
                looked = [word for length in range(1, power + 1) for word in all_words(many, length) if looks_lyndon(word)]
                self.gives(looked, lyndon_words, many=many, power=power)
        self.gives([(0,)], lyndon_words, many=1, power=6)
        self.gives([(0,), (1,), (2,), (3,)], lyndon_words, many=4, power=1)

    def test_lyndon_count(self):
        self.gives(9, lyndon_count, many=2, length=6)
        for many, most in ((1, 8), (2, 8), (3, 6), (4, 5)):
            words = lyndon_words(many, most)
            for length in range(1, most + 1):
                self.gives(len([word for word in words if len(word) == length]), lyndon_count, many=many, length=length)
        for many in (1, 2, 3, 4):
            for length in range(1, 31):
                # Each WORD is some rounds of a Lyndon WORD, begun at any of its letters.
                parts = [n for n in range(1, length + 1) if length % n == 0]
                self.assertEqual(sum(n * lyndon_count(many, n) for n in parts), many ** length)
        self.gives(35790267, lyndon_count, many=2, length=30)
        self.gives(0, lyndon_count, many=1, length=30)
        self.gives(1, lyndon_count, many=1, length=1)


class Shuffles(Case):

    def test_the_example(self):
        self.gives((((0, 0, 1), 2), ((0, 1, 0), 1)), shuffles, word=(0,), other=(0, 1))

    def test_beside_all_ways(self):
        words = [word for length in range(4) for word in all_words(2, length)]
        for word in words:
            for other in words:
                self.same(shuffles(word, other), looks_shuffled(word, other))
        for word, other in (((), ()), ((), (3, 0)), ((2, 1), ()), ((0, 1, 2, 3), (3, 2, 1, 0)), ((0, 0, 0, 0), (0, 0, 0, 0)),
                            ((1, 0, 1), (0, 1, 0, 2, 2)), ((3,), (0, 1, 2, 0, 1, 2, 3))):
            self.gives(looks_shuffled(word, other), shuffles, word=word, other=other)
        self.gives((((), 1),), shuffles, word=(), other=())
        self.gives((((0,) * 8, 70),), shuffles, word=(0,) * 4, other=(0,) * 4)

    def test_worths_multiplied(self):
        for seed in range(20):
            row = some_row(seed, 3, 6)
            for word, other in (((0,), (1,)), ((0, 1), (1, 0)), ((2, 2), (0, 1)), ((), (1,)), ((0, 1, 2), (2,))):
                total = sum(number * ratio(word_worth(row, own)) for own, number in shuffles(word, other))
                self.same(pair(total), pair(ratio(word_worth(row, word)) * ratio(word_worth(row, other))))


if __name__ == "__main__":
    unittest.main()
