import itertools
import unittest

from everychange.trees import cuts, is_tree, made_tree, number_of, places_of_tree, trees_of
from tests.helpers import Case

dot = (0, ())
stalk, fork = (0, (dot,)), (0, (dot, dot))


def grown(tree, parts):
    """The TREES that come of tree by one further leaf."""
    part, branches = tree
    for own in range(parts):
        yield (part, tuple(sorted(branches + ((own, ()),))))
    for at, branch in enumerate(branches):
        for other in grown(branch, parts):
            yield (part, tuple(sorted(branches[:at] + (other,) + branches[at + 1:])))


def all_trees(parts, places):
    found = {(part, ()) for part in range(parts)}
    for _ in range(places - 1):
        found = {other for tree in found for other in grown(tree, parts)}
    return sorted(found)


def places_below(tree):
    """The branches of any place, each as the ways to it."""
    for at, branch in enumerate(tree[1]):
        yield (at,)
        for way in places_below(branch):
            yield (at,) + way


def at_way(tree, way):
    for at in way:
        tree = tree[1][at]
    return tree


def without(tree, ways):
    kept = [without(branch, [way[1:] for way in ways if way[0] == at])
            for at, branch in enumerate(tree[1]) if (at,) not in ways]
    return (tree[0], tuple(sorted(kept)))


def all_cuts(tree):
    """One way to cut after another, looked at one by one."""
    ways = list(places_below(tree))
    for many in range(len(ways) + 1):
        for lot in itertools.combinations(ways, many):
            if not any(one != other and other[:len(one)] == one for one in lot for other in lot):
                yield (tuple(sorted(at_way(tree, way) for way in lot)), without(tree, lot))


class Trees(Case):

    def test_is_tree(self):
        self.is_one(is_tree, [dot, stalk, fork, (5, (dot, dot, stalk, (1, ()))), (10 ** 40, ())])
        self.is_none(is_tree, [(0, (stalk, dot)), (-1, ()), (0, ((1, ()), dot)), (0,), (0, (), ()), (), 0, None, "dot",
                               (0, dot), (0, (dot, (0, (stalk, dot)))), (0, (dot, 1))])
        self.only_unbent(is_tree, (1, (dot, dot, (0, (stalk,)))))

    def test_nested_deep_and_wide(self):
        tall = dot
        for _ in range(49):
            tall = (0, (tall,))
        self.is_one(is_tree, [tall, (0, (dot,) * 5000)])
        bad = (0, (stalk, dot))
        for _ in range(47):
            bad = (0, (bad,))
        self.is_none(is_tree, [bad])
        deep = ()
        for _ in range(99):
            deep = (deep,)
        self.is_none(is_tree, [deep, (0, deep)])

    def test_made_tree(self):
        self.gives((1, (dot, dot, stalk, fork)), made_tree, part=1, branches=(stalk, dot, fork, dot))
        self.gives((0, ()), made_tree, part=0, branches=())
        self.gives((0, (dot, (1, ()), (2, ()))), made_tree, part=0, branches=((2, ()), (1, ()), dot))

    def test_numbers(self):
        self.gives(15, number_of, tree=(0, (dot, fork)))
        self.gives(1, number_of, tree=(3, ()))
        self.gives(24, number_of, tree=(0, ((0, (stalk,)),)))
        self.gives(5, places_of_tree, tree=(0, (dot, fork)))
        self.gives(1, places_of_tree, tree=dot)
        self.gives(40, places_of_tree, tree=(0, (dot,) * 39))
        self.gives(40, number_of, tree=(0, (dot,) * 39))

    def test_trees_of(self):
        self.gives([fork, (0, (stalk,))], trees_of, parts=1, places=3)
        self.gives([dot, (1, ()), (2, ())], trees_of, parts=3, places=1)
        self.assertEqual(len(trees_of(2, 3)), 14)
        for parts, places in ((1, 1), (1, 2), (1, 3), (1, 4), (1, 5), (1, 6), (1, 7), (2, 1), (2, 2), (2, 3), (2, 4), (3, 3),
                              (4, 3), (4, 1)):
            found = trees_of(parts, places)
            self.same(found, all_trees(parts, places))
            for tree in found:
                self.assertTrue(is_tree(tree))
                self.assertEqual(places_of_tree(tree), places)
        self.assertEqual([len(trees_of(1, places)) for places in range(1, 9)], [1, 1, 2, 4, 9, 20, 48, 115])


class Cuts(Case):

    def test_the_examples(self):
        self.gives([((), stalk), ((dot,), dot)], cuts, tree=stalk)
        self.gives([((), fork), ((dot,), stalk), ((dot,), stalk), ((dot, dot), dot)], cuts, tree=fork)
        self.gives([((), dot)], cuts, tree=dot)

    def test_beside_all_ways(self):
        trees = trees_of(1, 5) + trees_of(2, 4)[::7] + trees_of(3, 3)[::5]
        trees += [(0, (dot, dot, fork, (0, (stalk,)))), (1, (fork, fork))]
        for tree in trees:
            self.gives(sorted(all_cuts(tree)), cuts, tree=tree)

    def test_ten_places(self):
        wide = (0, (dot,) * 9)
        self.assertEqual(len(cuts(wide)), 512)
        tall = dot
        for _ in range(9):
            tall = (0, (tall,))
        self.assertEqual(len(cuts(tall)), 10)
        self.same(cuts((0, (fork, fork, fork))), sorted(all_cuts((0, (fork, fork, fork)))))


if __name__ == "__main__":
    unittest.main()
