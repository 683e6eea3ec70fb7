"""TREES, point [21]."""

from everychange.plain import frozen, is_count, is_tuple


def is_tree(thing):
    """Whether thing is a TREE."""
    if not is_tuple(thing, 2) or not is_count(thing[0]) or not isinstance(thing[1], tuple):
        return False
    branches = thing[1]
    if not all([is_tree(branch) for branch in branches]):
        return False
    return all([branches[at] <= branches[at + 1] for at in range(len(branches) - 1)])


def made_tree(part, branches):
    """The TREE with these TREES as branches."""
    return (part, tuple(sorted(frozen(branches))))


def trees_within(tree):
    """tree, its branches, their branches and so on, each as often as it comes."""
    found = [tree]
    for branch in tree[1]:
        found.extend(trees_within(branch))
    return found


def places_of_tree(tree):
    """How many places tree has."""
    return len(trees_within(tree))


def unlike_trees(trees):
    """The unlike ones among these TREES, their branches and so on, fewest places first, then by comparison."""
    found = []
    for _, own in sorted([(places_of_tree(own), own) for tree in trees for own in trees_within(tree)]):
        if own not in found:
            found.append(own)
    return found


def number_of(tree):
    """How many places tree has, times the numbers of its branches."""
    number = 1
    for own in trees_within(tree):
        number = number * places_of_tree(own)
    return number


def _forests(trees, sizes, places):
    """All tuples of the ascending trees, each as often as it may, that have just so many places together."""
    found = [[()]] + [[] for _ in range(places)]
    for tree, size in zip(trees, sizes):
        for filled in range(size, places + 1):
            found[filled] = found[filled] + [lot + (tree,) for lot in found[filled - size]]
    return found[places]


def trees_of(parts, places):
    """The ascending list of all TREES of just so many places whose parts are less than parts."""
    trees = []
    for size in range(1, places + 1):
        smaller = sorted(trees)
        lots = _forests(smaller, [places_of_tree(tree) for tree in smaller], size - 1)
        found = [(part, lot) for part in range(parts) for lot in lots]
        trees.extend(found)
    return sorted(found)


def _laid_together(first, second):
    return tuple(sorted(first + second))


def cuts(tree):
    """The list of the pairs (lot, rooted part), one for each way to cut, in order."""
    tree = frozen(tree)
    ways = [((), ())]
    for branch in tree[1]:
        choices = [((branch,), ())] + [(lot, (rest,)) for lot, rest in cuts(branch)]
        ways = [(_laid_together(lot, more), kept + further) for lot, kept in ways for more, further in choices]
    return sorted([(lot, made_tree(tree[0], kept)) for lot, kept in ways])
