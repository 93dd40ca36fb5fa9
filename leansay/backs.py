"""Back from a line: rows that mean it."""

from leansay.errors import NoLine
from leansay.lines import NOUGHT, is_outside, told_by_stretch
from leansay.straights import straight_rows

MOST_STRETCHES = 6
STEEPEST = 4


# A stretch is straight, so it is out at one of its two ends or nowhere.
def is_out(stretch, start):
    return is_outside(told_by_stretch(stretch, start)) or is_outside(told_by_stretch(stretch, stretch[0]))


def must_stay(line):
    start = NOUGHT
    for k, stretch in enumerate(line):
        if is_out(stretch, start):
            raise NoLine("out", k)
        start = stretch[0]


def must_lead_back(line):
    must_stay(line)
    if len(line) > MOST_STRETCHES:
        raise NoLine("many", len(line))
    for k, stretch in enumerate(line):
        if abs(stretch[1]) > STEEPEST:
            raise NoLine("steep", k)


def moved(row, by):
    return (row[0],) + tuple([place + by for place in row[1:]])


# The places of the stretches' rules (slope, height), cut off, each rule put once.
def put_straights(rows, line):
    place_of = {}
    for stretch in line:
        rule = stretch[1:]
        if rule not in place_of:
            by = len(rows)
            rows.extend([moved(row, by) for row in straight_rows(rule[0], rule[1])])
            place_of[rule] = len(rows) - 1
    return place_of


def put_folded(rows, word, places):
    folded = places[0]
    for place in places[1:]:
        rows.append((word, folded, place))
        folded = len(rows) - 1
    return folded


# Only the sign counts, so the bottom of x is left away.
def is_below_at(rule, stretch, x):
    return (rule[0] - stretch[1]) * x[0] + (rule[1] - stretch[2]) * x[1] < 0


def is_below(rule, stretch, start):
    return is_below_at(rule, stretch, start) or is_below_at(rule, stretch, stretch[0])


# For each stretch the lesser of the rules that are nowhere in it below the line is the line there. Elsewhere it is
# nowhere above the line: where the line, followed away from the stretch, falls below the stretch's rule, it does so
# along a rule that is above that one all the way back, so this is among them; and so on where it falls below this.
def rows_of_line(line):
    must_lead_back(line)
    rows = []
    place_of = put_straights(rows, line)
    lessers = []
    start = NOUGHT
    for stretch in line:
        places = [place_of[rule] for rule in place_of if not is_below(rule, stretch, start)]
        lessers.append(put_folded(rows, "lesser", places))
        start = stretch[0]
    put_folded(rows, "greater", lessers)
    return rows
