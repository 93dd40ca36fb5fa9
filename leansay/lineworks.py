"""Lines made of lines."""

from leansay.fractions import fraction, less
from leansay.lines import NOUGHT, WHOLE, joined


def straight(slope, height):
    return ((WHOLE, slope, height),)


# Tuples (end, the one's stretch, the other's), one for each piece that lies in a single stretch of each.
def side_by_side(one, other):
    pieces = []
    i = 0
    j = 0
    while i < len(one) and j < len(other):
        end = one[i][0] if less(one[i][0], other[j][0]) else other[j][0]
        pieces.append((end, one[i], other[j]))
        if one[i][0] == end:
            i += 1
        if other[j][0] == end:
            j += 1
    return pieces


def added(one, other):
    pieces = side_by_side(one, other)
    return joined([(end, first[1] + second[1], first[2] + second[2]) for end, first, second in pieces])


def turned(line):
    return tuple([(end, -slope, -height) for end, slope, height in line])


def raised(line, by):
    return tuple([(end, slope, height + by) for end, slope, height in line])


def greater_stretches(start, end, first, second):
    slope = first[1] - second[1]
    height = first[2] - second[2]
    # How far the first is above the second; only the signs count, so the bottoms are left away.
    at_start = slope * start[0] + height * start[1]
    at_end = slope * end[0] + height * end[1]
    greater_at_start = first if at_start > 0 else second
    greater_at_end = first if at_end > 0 else second
    if at_start * at_end < 0:
        meeting = fraction(-height, slope)
        return [(meeting,) + greater_at_start[1:], (end,) + greater_at_end[1:]]
    if at_start == 0:
        return [(end,) + greater_at_end[1:]]
    return [(end,) + greater_at_start[1:]]


def greater_line(one, other):
    stretches = []
    start = NOUGHT
    for end, first, second in side_by_side(one, other):
        stretches.extend(greater_stretches(start, end, first, second))
        start = end
    return joined(stretches)


def lesser_line(one, other):
    return turned(greater_line(turned(one), turned(other)))


def cut_off(line):
    return lesser_line(greater_line(line, straight(0, 0)), straight(0, 1))
