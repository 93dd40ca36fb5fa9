"""Broken lines: tuples of stretches (end, slope, height), made, and asked for heights and bends."""

from leansay.errors import NoLine, NoPoint
from leansay.fractions import fraction, less

NOUGHT = (0, 1)
WHOLE = (1, 1)
MOST_STRETCHES = 60


def is_outside(x):
    return less(x, NOUGHT) or less(WHOLE, x)


def told_by_stretch(stretch, x):
    return fraction(stretch[1] * x[0] + stretch[2] * x[1], x[1])


def must_have_ends(stretches):
    ahead = NOUGHT
    for k, stretch in enumerate(stretches):
        if not less(ahead, stretch[0]) or less(WHOLE, stretch[0]):
            raise NoLine("end", k)
        ahead = stretch[0]
    if ahead != WHOLE:
        raise NoLine("short", len(stretches) - 1)


def must_not_jump(stretches):
    for k in range(1, len(stretches)):
        x = stretches[k - 1][0]
        if told_by_stretch(stretches[k - 1], x) != told_by_stretch(stretches[k], x):
            raise NoLine("jump", k)


# Neighbours of the same slope and height become one, so unlike lines mean unlike functions.
def joined(stretches):
    line = []
    for stretch in stretches:
        if line != [] and line[-1][1:] == stretch[1:]:
            line.pop()
        line.append(stretch)
    return tuple(line)


def line_made(stretches):
    if not 1 <= len(stretches) <= MOST_STRETCHES:
        raise NoLine("count", len(stretches))
    must_have_ends(stretches)
    must_not_jump(stretches)
    return joined(stretches)


def height_at(line, x):
    if is_outside(x):
        raise NoPoint("a line has heights from 0 to 1 alone")
    k = 0
    while less(line[k][0], x):
        k += 1
    return told_by_stretch(line[k], x)


def bends(line):
    found = [(NOUGHT, told_by_stretch(line[0], NOUGHT))]
    for stretch in line:
        found.append((stretch[0], told_by_stretch(stretch, stretch[0])))
    return found


# Between two bends a line is straight, so it leaves 0 to 1 at a bend or nowhere.
def stays(line):
    return not any([is_outside(bend[1]) for bend in bends(line)])
