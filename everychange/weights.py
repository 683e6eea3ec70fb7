"""WEIGHTS: what TABLES weigh at TREES, and how this goes behind one another, point [21]."""

from everychange.errors import NoPlace, Unfit
from everychange.plain import frozen, is_tuple
from everychange.ratios import ONE, ZERO, applied, dot, fraction, is_fraction, minus, over, plus, power_of, times, whole
from everychange.trees import cuts, is_tree, number_of, places_of_tree, trees_of, trees_within


def _check_parts(sheet, tree):
    beyond = [part for part, branches in trees_within(tree) if part >= len(sheet[0])]
    if beyond:
        raise NoPlace(min(beyond))


def _row(matrices, tree):
    row = [ONE] * len(matrices[0])
    for branch in tree[1]:
        sums = applied(matrices[branch[0]], _row(matrices, branch))
        row = [times(x, y) for x, y in zip(row, sums)]
    return tuple(row)


def tree_row(sheet, tree):
    """The row of tree over the stages of a TABLE or SHEET."""
    _check_parts(sheet, tree)
    return _row(sheet[0], tree)


def weight(table, tree):
    """The weight of tree in the TABLE."""
    return dot(tree_row(table, tree), table[1][tree[0]])


def _all_trees(parts, places):
    """The TREES of WEIGHTS, in their order."""
    return [tree for many in range(1, places + 1) for tree in trees_of(parts, many)]


def weights_of(table, places):
    """The WEIGHTS of the TABLE."""
    return tuple([(tree, weight(table, tree)) for tree in _all_trees(len(table[0]), places)])


def flow_weights(parts, places):
    """The WEIGHTS with 1 divided by the number of each TREE."""
    return tuple([(tree, (1, number_of(tree))) for tree in _all_trees(parts, places)])


def is_weights(parts, places, thing):
    """Whether thing is WEIGHTS of so many parts to so many places."""
    if not isinstance(thing, tuple):
        return False
    done = 0
    for many in range(1, places + 1):
        trees = trees_of(parts, many)
        if not _weigh(thing[done:done + len(trees)], trees):
            return False
        done += len(trees)
    return len(thing) == done


def _weigh(pairs, trees):
    """Whether these are pairs with a FRACTION for each of the TREES, in order."""
    if len(pairs) != len(trees):
        return False
    for pair, tree in zip(pairs, trees):
        if not is_tuple(pair, 2) or not is_tree(pair[0]) or pair[0] != tree or not is_fraction(pair[1]):
            return False
    return True


def cut_places(trees):
    """For each TREE the list of its cuts, as places among the trees, less the one that cuts nothing off."""
    found = []
    for tree in trees:
        ways = [(lot, rest) for lot, rest in cuts(tree) if lot]
        found.append([([trees.index(own) for own in lot], trees.index(rest)) for lot, rest in ways])
    return found


def over_cuts(ways, firsts, seconds):
    """The sum over the cuts of the second one for the rooted part times the first ones for what is cut off."""
    total = ZERO
    for lot, rest in ways:
        worth = seconds[rest]
        for at in lot:
            worth = times(worth, firsts[at])
        total = plus(total, worth)
    return total


def trees_and_worths(weights):
    """The TREES of WEIGHTS, and their FRACTIONS."""
    weights = frozen(weights)
    return [tree for tree, x in weights], [x for tree, x in weights]


def behind_weights(weights, others):
    """The WEIGHTS of what tells others, begun with what tells weights."""
    trees, firsts = trees_and_worths(weights)
    same, seconds = trees_and_worths(others)
    if trees != same:
        raise Unfit()
    found = []
    for at, ways in enumerate(cut_places(trees)):
        worth = plus(plus(firsts[at], seconds[at]), over_cuts(ways, firsts, seconds))
        found.append((trees[at], worth))
    return tuple(found)


def back_weights(weights):
    """The WEIGHTS that behind these come to 0 for each TREE."""
    trees, firsts = trees_and_worths(weights)
    found = []
    for at, ways in enumerate(cut_places(trees)):
        # A rooted part has fewer places than its TREE: it is found already.
        found.append(minus(minus(ZERO, firsts[at]), over_cuts(ways, firsts, found)))
    return tuple(list(zip(trees, found)))


def scaled_weights(weights, x):
    """The WEIGHTS of the step times x."""
    trees, worths = trees_and_worths(weights)
    return tuple([(tree, times(power_of(x, places_of_tree(tree)), worth)) for tree, worth in zip(trees, worths)])


def root_weights(weights, n):
    """The only WEIGHTS that, n times behind one another, come to these."""
    trees, worths = trees_and_worths(weights)
    ways = cut_places(trees)
    # To begin with weights is to add something of fewer places, D, again and again:
    # done n times it is (1 + D) to the power n, and the root is this series for 1 / n.
    added, share, roots = list(worths), over(ONE, whole(n)), [ZERO] * len(trees)
    done = 0
    while any([x[0] for x in added]):
        roots = [plus(root, times(share, x)) for root, x in zip(roots, added)]
        done += 1
        share = times(share, over(fraction(1 - done * n, n), whole(done + 1)))
        added = [over_cuts(own, worths, added) for own in ways]
    return tuple(list(zip(trees, roots)))


def misses(table, places):
    """The list of the TREES whose weight is not 1 divided by their number."""
    return [tree for tree, x in flow_weights(len(table[0]), places) if weight(table, tree) != x]
