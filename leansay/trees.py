"""Trees of cuts: how they part the square, and what they hold for."""

from leansay.errors import NoCut, TooMany
from leansay.hulls import cut, square, told_by
from leansay.rows import rows_of
from leansay.rules import rules_of_rows
from leansay.sayings import Leads

LEAF = ("leaf",)
MOST_FOLDS = 8


def hulls_of(tree):
    found = []
    trees = [tree]
    hulls = [square()]
    while trees:
        branch = trees.pop()
        hull = hulls.pop()
        if branch[0] == "leaf":
            found.append(hull)
        else:
            parts = cut(hull, branch[1])
            trees.extend([branch[3], branch[2]])
            hulls.extend([parts[1], parts[0]])
    return found


def must_be_few(folds):
    if folds > MOST_FOLDS:
        raise TooMany("trees are told of at most eight folds")


# A fold that has a rule on a hull has it on each part of it. So each fold cuts at most once on the way to a leaf, and
# of eight folds come at most eight cuts within one another, and 255 in all.
def tree_on(hull, rows):
    told = rules_of_rows(rows, hull)
    if told[0] == "rules":
        return LEAF
    test = told[2]
    parts = cut(hull, test)
    return ("cut", test, tree_on(parts[0], rows), tree_on(parts[1], rows))


def cutting(saying):
    must_be_few(saying.folds())
    return tree_on(square(), rows_of(saying))


# The rows of both sayings, and the places of the two: a fold of both has these rows, and behind them its own, which
# names the places.
def rows_of_both(one, other):
    rows = rows_of(Leads(one, other))
    fold = rows.pop()
    return (rows, fold[1], fold[2])


def cutting_for_both(one, other):
    must_be_few(one.folds() + other.folds())
    return tree_on(square(), rows_of_both(one, other)[0])


# The rules of rows on each hull of the tree, or None where it is no tree on the square, or a row has no rule on one.
def rules_in_leaves(rows, tree):
    try:
        hulls = hulls_of(tree)
    except NoCut:
        return None
    told = [rules_of_rows(rows, hull) for hull in hulls]
    if any([answer[0] == "mixed" for answer in told]):
        return None
    return [(hull, answer[1]) for hull, answer in zip(hulls, told)]


def is_no_less_at(rule, corner, least):
    return told_by(rule, corner) * least[1] >= least[0] * corner[0]


def is_no_less_on(rule, hull, least):
    return all([is_no_less_at(rule, corner, least) for corner in hull])


def holds(saying, tree, least):
    must_be_few(saying.folds())
    leaves = rules_in_leaves(rows_of(saying), tree)
    if leaves is None:
        return False
    return all([is_no_less_on(rules[-1], hull, least) for hull, rules in leaves])


def holds_for_both(one, other, tree):
    must_be_few(one.folds() + other.folds())
    both = rows_of_both(one, other)
    leaves = rules_in_leaves(both[0], tree)
    if leaves is None:
        return False
    return all([rules[both[1]] == rules[both[2]] for hull, rules in leaves])
