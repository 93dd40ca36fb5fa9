"""The least worth of a saying, whether it is always 1, and the fewest steps among which it is seen that it is not."""

from leansay.fractions import fraction, less
from leansay.hulls import told_by
from leansay.lines import WHOLE
from leansay.points import worth
from leansay.rows import rows_of
from leansay.rules import rules_of_rows
from leansay.trees import cutting, hulls_of


# On each hull the saying has one rule, so it is least in a corner.
def least_worth(saying):
    tree = cutting(saying)
    least = None
    point = None
    for hull in hulls_of(tree):
        for corner in hull:
            found = fraction(worth(saying, corner), corner[0])
            if least is None or less(found, least):
                least = found
                point = corner
    return (least, point, tree)


def always(saying):
    told = least_worth(saying)
    if told[0] == WHOLE:
        return ("always", told[2])
    return ("less", told[1])


# A bound (a, b, c, least) is kept by a point where the rule (a, b, c) tells no less than least there. A side's is kept
# on the hull's own side of it, the corners going round against the clock.
def side_bound(one, other):
    a = one[2] * other[0] - one[0] * other[2]
    b = one[0] * other[1] - one[1] * other[0]
    c = one[1] * other[2] - one[2] * other[1]
    return (a, b, c, 0)


# The bounds of those points of the hull at which the rule tells less than n: n less it is a whole number from 1 on.
def bounds_of(hull, rule):
    bounds = [side_bound(one, other) for one, other in zip(hull, hull[1:] + hull[:1])]
    bounds.append((-rule[0], -rule[1], 1 - rule[2], 1))
    return bounds


# Tuples (hull, bounds), one for each hull of the cutting on which the saying is somewhere less than 1.
def regions_below(saying):
    rows = rows_of(saying)
    regions = []
    for hull in hulls_of(cutting(saying)):
        rule = rules_of_rows(rows, hull)[1][-1]
        if any([told_by(rule, corner) < corner[0] for corner in hull]):
            regions.append((hull, bounds_of(hull, rule)))
    return regions


def round_up(top, bottom):
    return -(-top // bottom)


# The least y with which (n, x, y) keeps all bounds, or None.
def y_within(bounds, n, x):
    lowest = 0
    highest = n
    for a, b, c, least in bounds:
        rest = least - a * x - c * n
        if b > 0:
            lowest = max(lowest, round_up(rest, b))
        elif b < 0:
            highest = min(highest, rest // b)
        elif rest > 0:
            return None
    return lowest if lowest <= highest else None


# Only the columns that the hull reaches are looked at, as it may be narrow where n is great.
def step_within(hull, bounds, n):
    first = min([round_up(corner[1] * n, corner[0]) for corner in hull])
    last = max([corner[1] * n // corner[0] for corner in hull])
    for x in range(first, last + 1):
        y = y_within(bounds, n, x)
        if y is not None:
            return (n, x, y)
    return None


def step_below(regions, n):
    for hull, bounds in regions:
        point = step_within(hull, bounds, n)
        if point is not None:
            return point
    return None


def fewest_steps(saying):
    regions = regions_below(saying)
    if regions == []:
        return None
    n = 1
    point = step_below(regions, n)
    while point is None:
        n += 1
        point = step_below(regions, n)
    return (n, point)
