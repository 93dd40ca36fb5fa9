"""What tests hold the program against, told without it: sayings as plans ("never",), .., ("not", plan),
(word, plan, plan), and what lines mean."""

import itertools
import math
import random
from fractions import Fraction

from leansay.sayings import Always, Greater, Leads, Less, Lesser, Letter, More, Never, Not

FOLDS = {"more": More, "less": Less, "greater": Greater, "lesser": Lesser, "leads": Leads}
P = Letter("p")
Q = Letter("q")
LEAVES = ("never", "always", "p", "q")
LARGE = 10 ** 20 + 39
SIXTY = 10 ** 60 - 1
SQUARE = [(1, 0, 0), (1, 1, 0), (1, 1, 1), (1, 0, 1)]


def some_plan(chance, size):
    if size == 1:
        return (chance.choice(("never", "always", "p", "q", "p", "q")),)
    if size == 2 or chance.randrange(5) == 0:
        return ("not", some_plan(chance, size - 1))
    ahead = chance.randrange(1, size - 1)
    return (chance.choice(tuple(FOLDS)), some_plan(chance, ahead), some_plan(chance, size - 1 - ahead))


def some_plans(count, sizes):
    chance = random.Random(10)
    return [some_plan(chance, chance.choice(sizes)) for k in range(count)]


def made(plan):
    if len(plan) == 1:
        leaf = {"never": Never, "always": Always}.get(plan[0])
        return Letter(plan[0]) if leaf is None else leaf()
    if plan[0] == "not":
        return Not(made(plan[1]))
    return FOLDS[plan[0]](made(plan[1]), made(plan[2]))


def text_of(plan):
    if len(plan) == 1:
        return plan[0]
    if plan[0] == "not":
        return "not " + text_of(plan[1])
    return "( " + text_of(plan[1]) + " " + plan[0] + " " + text_of(plan[2]) + " )"


def worth_of(plan, n, x, y):
    if len(plan) == 1:
        return {"never": 0, "always": n, "p": x, "q": y}[plan[0]]
    worths = [worth_of(part, n, x, y) for part in plan[1:]]
    if plan[0] == "not":
        return n - worths[0]
    one, other = worths
    return {
        "more": n if one + other > n else one + other,
        "less": 0 if one + other < n else one + other - n,
        "greater": one if one > other else other,
        "lesser": other if one > other else one,
        "leads": n if one <= other else n - (one - other),
    }[plan[0]]


def put_plan(plan, one, other):
    if len(plan) == 1:
        return {"p": one, "q": other}.get(plan[0], plan)
    return (plan[0],) + tuple(put_plan(part, one, other) for part in plan[1:])


def words_of(plan):
    return text_of(plan).split(" ")


def some_points(chance, count):
    points = []
    for k in range(count):
        n = chance.choice((1, 2, 3, 7, 40, LARGE, SIXTY))
        points.append((n, chance.randrange(n + 1), chance.randrange(n + 1)))
    return points


def pair(x):
    return (x.numerator, x.denominator)


def height_on(line, x):
    for end, slope, height in line:
        if x <= Fraction(*end):
            return slope * x + height


def is_pair(thing):
    return (type(thing) is tuple and [type(part) for part in thing] == [int, int] and thing[1] >= 1
            and math.gcd(*thing) == 1)


# None where the thing is a line as [14] tells.
def line_fault(line):
    if type(line) is not tuple or line == ():
        return "no tuple of stretches"
    for stretch in line:
        if type(stretch) is not tuple or len(stretch) != 3 or not is_pair(stretch[0]):
            return "no stretch"
        if [type(number) for number in stretch[1:]] != [int, int]:
            return "no whole numbers"
    ends = [Fraction(0)] + [Fraction(*stretch[0]) for stretch in line]
    if ends != sorted(set(ends)) or ends[-1] != 1:
        return "ends amiss"
    for first, second in zip(line, line[1:]):
        end = Fraction(*first[0])
        if first[1] * end + first[2] != second[1] * end + second[2]:
            return "a jump"
        if first[1:] == second[1:]:
            return "neighbours alike"
    return None


# Whole slopes and heights on both sides of an end a / b are those that differ by k b and - k a.
def some_line(chance, count, bottoms=(2, 3, 4, 5, 6, 7, 12), steepness=3):
    ends = set()
    while len(ends) < count - 1:
        bottom = chance.choice(bottoms)
        ends.add(Fraction(chance.randrange(1, bottom), bottom))
    slope = chance.randrange(-9, 10)
    height = chance.randrange(-4, 5)
    line = []
    for end in sorted(ends):
        line.append((pair(end), slope, height))
        k = chance.choice([k for k in range(-steepness, steepness + 1) if k != 0])
        slope += k * end.denominator
        height -= k * end.numerator
    return tuple(line) + (((1, 1), slope, height),)


# Where two rules of all these lines meet, all ends, and a place between each two of these.
def places_on(*lines):
    rules = sorted({stretch[1:] for line in lines for stretch in line})
    places = {Fraction(0)} | {Fraction(*stretch[0]) for line in lines for stretch in line}
    for slope, height in rules:
        for other_slope, other_height in rules:
            if slope != other_slope:
                places.add(Fraction(other_height - height, slope - other_slope))
    places = sorted(place for place in places if 0 <= place <= 1)
    return places + [(first + second) / 2 for first, second in zip(places, places[1:])]


def some_rows(chance, count, words=LEAVES):
    rows = []
    for place in range(count):
        if place == 0 or chance.randrange(6) == 0:
            rows.append((chance.choice(words),))
        elif chance.randrange(4) == 0:
            rows.append(("not", chance.randrange(place)))
        else:
            rows.append((chance.choice(tuple(FOLDS)), chance.randrange(place), chance.randrange(place)))
    return rows


# The worth of each row.
def worths_row_by_row(rows, point):
    worths = []
    for row in rows:
        n, x, y = point
        if len(row) == 1:
            worths.append(worth_of(row, n, x, y))
        else:
            letters = (("p",), ("q",))[:len(row) - 1]
            worths.append(worth_of((row[0],) + letters, n, worths[row[1]], worths[row[-1]]))
    return worths


# How far the function of a line's rule may be followed from start: the places behind start where it meets another rule
# with a slope of at most four, and does not leave 0 to 1 ahead of it.
def bends_ahead(start, slope, height):
    found = []
    for other_slope in range(-4, 5):
        for other_height in range(-4, 6):
            if other_slope != slope:
                x = Fraction(other_height - height, slope - other_slope)
                if start < x < 1 and 0 <= slope * x + height <= 1:
                    found.append((x, other_slope, other_height))
    return found


# Each line of at most so many stretches, behind those given, that stays and has slopes of at most four either way.
def staying_lines(most, stretches=(), start=Fraction(0), rules=None):
    if rules is None:
        rules = [(slope, height) for slope in range(-4, 5) for height in (0, 1)]
    for slope, height in rules:
        if 0 <= slope + height <= 1:
            yield stretches + (((1, 1), slope, height),)
        if most > 1:
            for x, other_slope, other_height in bends_ahead(start, slope, height):
                ahead = stretches + ((pair(x), slope, height),)
                yield from staying_lines(most - 1, ahead, x, [(other_slope, other_height)])


# A point's two fractions.
def place_of(point):
    return (Fraction(point[1], point[0]), Fraction(point[2], point[0]))


def corner_at(x, y):
    n = math.lcm(x.denominator, y.denominator)
    return (n, int(x * n), int(y * n))


# The corner that lies amid some points.
def amid(points):
    places = [place_of(point) for point in points]
    return corner_at(sum(place[0] for place in places) / len(places), sum(place[1] for place in places) / len(places))


# More than 0 where the three turn against the clock.
def turning(first, second, third):
    return ((second[0] - first[0]) * (third[1] - first[1]) - (second[1] - first[1]) * (third[0] - first[0]))


def area(hull):
    places = [place_of(corner) for corner in hull]
    return sum(turning(places[0], second, third) for second, third in zip(places[1:], places[2:])) / 2


# None where the thing is a hull as [23] tells.
def hull_fault(hull):
    if type(hull) is not list or len(hull) < 3:
        return "no list of three or more"
    for corner in hull:
        if type(corner) is not tuple or [type(number) for number in corner] != [int, int, int]:
            return "no corner"
        if corner[0] < 1 or not all(0 <= number <= corner[0] for number in corner) or math.gcd(*corner) != 1:
            return "no corner of the square, or one with a common part"
    for three in itertools.combinations([place_of(corner) for corner in hull], 3):
        if turning(*three) <= 0:
            return "not outward, against the clock"
    return None


def some_rule(chance, most):
    return tuple(chance.randrange(-most, most + 1) for k in range(3))


# The two parts by [24], reckoned with fractions; None where the rule does not cut.
def parts_of(hull, rule):
    places = [place_of(corner) for corner in hull]
    told = [rule[0] * x + rule[1] * y + rule[2] for x, y in places]
    if not (any(height < 0 for height in told) and any(height > 0 for height in told)):
        return None
    low, high = [], []
    for k, (x, y) in enumerate(places):
        other_x, other_y = places[(k + 1) % len(hull)]
        here, there = told[k], told[(k + 1) % len(hull)]
        if here <= 0:
            low.append(hull[k])
        if here >= 0:
            high.append(hull[k])
        if (here < 0 < there) or (there < 0 < here):
            share = here / (here - there)
            between = corner_at(x + share * (other_x - x), y + share * (other_y - y))
            low.append(between)
            high.append(between)
    return (low, high)


# Hulls that came of so many cuts of the square, one within another, taken by chance; the square itself first.
def some_hulls(chance, depth, most=4):
    hulls = [list(SQUARE)]
    while len(hulls) <= depth:
        parts = parts_of(hulls[-1], some_rule(chance, most))
        if parts is None:
            # A rule through the middle, where none was met, cuts for certain.
            n, x, y = amid(hulls[-1])
            parts = parts_of(hulls[-1], chance.choice(((n, 0, -x), (0, n, -y), (n, -n, y - x), (n, n, -x - y))))
        hulls.append(chance.choice(parts))
    return hulls


# A plan with just so many folds.
def some_folded_plan(chance, folds):
    if folds == 0:
        plan = (chance.choice(("p", "q") * 6 + LEAVES),)
    else:
        ahead = chance.randrange(folds)
        behind = folds - 1 - ahead
        plan = (chance.choice(tuple(FOLDS)), some_folded_plan(chance, ahead), some_folded_plan(chance, behind))
    return ("not", plan) if chance.randrange(3) == 0 else plan


def some_folded_plans(seed, count, folds):
    chance = random.Random(seed)
    return [some_folded_plan(chance, chance.choice(folds)) for k in range(count)]


def folds_in(plan):
    return (len(plan) == 3) + sum(folds_in(part) for part in plan[1:])


# Tuples (cuts, cuts within one another, the greatest number in a rule) of a tree; an error where it has not the form
# that [26] tells.
def tree_size(tree):
    if type(tree) is not tuple or tree == () or tree[0] not in ("leaf", "cut"):
        raise ValueError("no tree")
    if tree[0] == "leaf":
        if tree != ("leaf",):
            raise ValueError("no leaf")
        return (0, 0, 0)
    word, rule, low, high = tree
    if type(rule) is not tuple or [type(number) for number in rule] != [int, int, int]:
        raise ValueError("no rule")
    low_size, high_size = tree_size(low), tree_size(high)
    return (1 + low_size[0] + high_size[0], 1 + max(low_size[1], high_size[1]),
            max(low_size[2], high_size[2], *[abs(number) for number in rule]))


# The hulls of the leaves by [26], reckoned with fractions; None where it is no tree on the hull.
def leaf_hulls(tree, hull):
    if tree[0] == "leaf":
        return [list(hull)]
    parts = parts_of(hull, tree[1])
    if parts is None:
        return None
    found = [leaf_hulls(branch, part) for branch, part in zip(tree[2:], parts)]
    return None if None in found else found[0] + found[1]


# Where a plan has one rule on a hull, as has each of its parts: each fold's test, by [25], has one sign in the corners.
def is_plain_on(plan, hull):
    if not all(is_plain_on(part, hull) for part in plan[1:]):
        return False
    if len(plan) < 3:
        return True
    told = []
    for n, x, y in hull:
        one, other = worth_of(plan[1], n, x, y), worth_of(plan[2], n, x, y)
        told.append(one + other - n if plan[0] in ("more", "less") else one - other)
    return min(told) >= 0 or max(told) <= 0


# Whether the tree holds by [28], reckoned without rules: what is plain on a hull is known by its worths in the corners.
def does_hold(plan, tree, least):
    hulls = leaf_hulls(tree, SQUARE)
    if hulls is None:
        return False
    return all(is_plain_on(plan, hull) for hull in hulls) and all(
        Fraction(worth_of(plan, *corner), corner[0]) >= Fraction(*least) for hull in hulls for corner in hull)


def does_hold_for_both(one, other, tree):
    hulls = leaf_hulls(tree, SQUARE)
    if hulls is None:
        return False
    return all(is_plain_on(one, hull) and is_plain_on(other, hull) for hull in hulls) and all(
        worth_of(one, *corner) == worth_of(other, *corner) for hull in hulls for corner in hull)


def all_steps(n):
    return [(n, x, y) for x in range(n + 1) for y in range(n + 1)]
