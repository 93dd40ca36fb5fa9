"""Rows: sayings told as lists in which each part stands once, and is named by its place."""

from leansay.errors import NoRows
from leansay.points import is_whole, must_be_point
from leansay.sayings import Letter, Not, fold_by, how_many_it_takes, leaf_by

MOST_ROWS = 400


def is_place_ahead(thing, place):
    return is_whole(thing) and 0 <= thing < place


def is_row(thing, place):
    if place >= MOST_ROWS or not isinstance(thing, tuple) or len(thing) == 0:
        return False
    if not isinstance(thing[0], str) or how_many_it_takes(thing[0]) != len(thing) - 1:
        return False
    return all([is_place_ahead(index, place) for index in thing[1:]])


def rows_fault(things):
    for place, thing in enumerate(things):
        if not is_row(thing, place):
            return place
    return 0 if len(things) == 0 else None


def must_be_rows(things):
    at = rows_fault(things)
    if at is not None:
        raise NoRows(at)


def rows_of(saying):
    rows = []
    place_of = {}
    waiting = []
    for part in saying.laid_out():
        taken = [waiting.pop() for piece in part.made_of()]
        taken.reverse()
        row = (part.making_word(),) + tuple(taken)
        if row not in place_of:
            place_of[row] = len(rows)
            rows.append(row)
        waiting.append(place_of[row])
    return rows


# What a row makes of others is weighed as the same made of letters that stand for the others' worths.
def row_worth(row, worths, point):
    n = point[0]
    if len(row) == 1:
        return leaf_by(row[0]).out_of(n, point[1], point[2])
    if len(row) == 2:
        return Not(Letter("p")).out_of(n, worths[row[1]], 0)
    return fold_by(row[0], Letter("p"), Letter("q")).out_of(n, worths[row[1]], worths[row[2]])


def worth_of_rows(rows, point):
    must_be_rows(rows)
    must_be_point(point)
    worths = []
    for row in rows:
        worths.append(row_worth(row, worths, point))
    return worths[-1]
