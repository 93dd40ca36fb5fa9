"""Hulls: the corners of parts of the square, and how a rule cuts them."""

from leansay.errors import NoCut
from leansay.fractions import common_factor


def square():
    return [(1, 0, 0), (1, 1, 0), (1, 1, 1), (1, 0, 1)]


def told_by(rule, point):
    return rule[0] * point[1] + rule[1] * point[2] + rule[2] * point[0]


def told_in_corners(rule, hull):
    return [told_by(rule, corner) for corner in hull]


# Each of both is taken as many times as the rule tells at the other one, so what it tells of them together is nought.
def corner_between(one, other, at_one, at_other):
    numbers = [abs(at_other) * first + abs(at_one) * second for first, second in zip(one, other)]
    factor = common_factor(common_factor(numbers[0], numbers[1]), numbers[2])
    return tuple([number // factor for number in numbers])


def cut(hull, rule):
    told = told_in_corners(rule, hull)
    if min(told) >= 0 or max(told) <= 0:
        raise NoCut("the rule does not cut the hull")
    low = []
    high = []
    for k, corner in enumerate(hull):
        following = (k + 1) % len(hull)
        if told[k] <= 0:
            low.append(corner)
        if told[k] >= 0:
            high.append(corner)
        if told[k] * told[following] < 0:
            between = corner_between(corner, hull[following], told[k], told[following])
            low.append(between)
            high.append(between)
    return (low, high)
