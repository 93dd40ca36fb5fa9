"""The lines that sayings of one letter mean."""

from leansay.errors import NoLetter
from leansay.lineworks import added, cut_off, greater_line, lesser_line, raised, straight, turned
from leansay.rows import must_be_rows, rows_of


def leaf_line(word):
    if word == "never":
        return straight(0, 0)
    if word == "always":
        return straight(0, 1)
    return straight(1, 0)


def fold_line(word, one, other):
    if word == "more":
        return cut_off(added(one, other))
    if word == "less":
        return cut_off(raised(added(one, other), -1))
    if word == "greater":
        return greater_line(one, other)
    if word == "lesser":
        return lesser_line(one, other)
    return cut_off(raised(added(turned(one), other), 1))


def row_line(row, lines):
    if len(row) == 1:
        return leaf_line(row[0])
    if len(row) == 2:
        return raised(turned(lines[row[1]]), 1)
    return fold_line(row[0], lines[row[1]], lines[row[2]])


def last_line(rows):
    lines = []
    for row in rows:
        lines.append(row_line(row, lines))
    return lines[-1]


def must_be_without_q(rows):
    if ("q",) in rows:
        raise NoLetter("a line is told of the letter p alone")


# The rows of a saying that was put together may be more than rows handed in: so they are not counted.
def line_of(saying):
    rows = rows_of(saying)
    must_be_without_q(rows)
    return last_line(rows)


def line_of_rows(rows):
    must_be_rows(rows)
    must_be_without_q(rows)
    return last_line(rows)
