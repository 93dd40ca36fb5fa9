"""Rows that mean a straight line, cut off."""

from leansay.errors import NoLine

STEEPEST = 12


# With f for a straight line and x for the letter, f and x together, cut off, is the and-less of (the or-more of f,
# cut off, and x) and of (f raised by 1, cut off). The places are those of lines of one slope, each a height of 1 above
# the one ahead; told are those of the lines of the next slope.
def put_steeper(rows, places, letter):
    steeper = []
    for k in range(len(places) - 1):
        rows.append(("more", places[k], letter))
        rows.append(("less", len(rows) - 1, places[k + 1]))
        steeper.append(len(rows) - 1)
    return steeper


def flat_rows(height):
    return [("always",)] if height >= 1 else [("never",)]


def straight_rows(slope, height):
    if abs(slope) > STEEPEST:
        raise NoLine("steep", 0)
    if slope == 0:
        return flat_rows(height)
    rows = [("never",), ("always",), ("p",)]
    lowest = height
    if slope < 0:
        # As x falls, 1 less x rises: the same line rises with not p from its height where p is 1.
        rows.append(("not", 2))
        lowest = height + slope
    letter = len(rows) - 1
    places = [1 if lowest + k >= 1 else 0 for k in range(abs(slope) + 1)]
    while len(places) > 1:
        places = put_steeper(rows, places, letter)
    return rows
