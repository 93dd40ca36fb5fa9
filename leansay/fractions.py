"""Fractions: tuples (top, bottom) of whole numbers in lowest terms, bottom from 1 on."""

from leansay.errors import NoNumber


def common_factor(one, other):
    greater = abs(one)
    lesser = abs(other)
    while lesser != 0:
        rest = greater % lesser
        greater = lesser
        lesser = rest
    return greater


def fraction(top, bottom):
    if bottom == 0:
        raise NoNumber("the bottom of a fraction is 0")
    factor = common_factor(top, bottom)
    # A factor with the bottom's sign brings the bottom above nought.
    if bottom < 0:
        factor = -factor
    return (top // factor, bottom // factor)


def plus(one, other):
    return fraction(one[0] * other[1] + other[0] * one[1], one[1] * other[1])


def minus(one, other):
    return fraction(one[0] * other[1] - other[0] * one[1], one[1] * other[1])


def times(one, other):
    return fraction(one[0] * other[0], one[1] * other[1])


def less(one, other):
    return one[0] * other[1] < other[0] * one[1]


# Python's str refuses numbers of more than some thousand figures, and what was multiplied may have as many:
# so the figures are written sixty at a time.
def figures(number):
    pieces = []
    rest = number
    while rest >= 10 ** 60:
        pieces.append(str(rest % 10 ** 60).zfill(60))
        rest = rest // 10 ** 60
    pieces.append(str(rest))
    pieces.reverse()
    return "".join(pieces)


def whole_written(number):
    if number < 0:
        return "-" + figures(-number)
    return figures(number)


def written(one):
    if one[1] == 1:
        return whole_written(one[0])
    return whole_written(one[0]) + "/" + figures(one[1])
