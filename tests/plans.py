"""What tests hold the program against, told without it: sayings as plans ("never",), .., ("not", plan),
(word, plan, plan), and what lines mean."""

import math
import random
from fractions import Fraction

from leansay.sayings import Always, Greater, Leads, Less, Lesser, Letter, More, Never, Not

FOLDS = {"more": More, "less": Less, "greater": Greater, "lesser": Lesser, "leads": Leads}
P = Letter("p")
Q = Letter("q")
LARGE = 10 ** 20 + 39
SIXTY = 10 ** 60 - 1


def some_plan(chance, size):
    if size == 1:
        return (chance.choice(("never", "always", "p", "q", "p", "q")),)
    if size == 2 or chance.randrange(5) == 0:
        return ("not", some_plan(chance, size - 1))
    ahead = chance.randrange(1, size - 1)
    return (chance.choice(tuple(FOLDS)), some_plan(chance, ahead), some_plan(chance, size - 1 - ahead))


def some_plans(count, sizes):
    chance = random.Random(10)
    return [some_plan(chance, chance.choice(sizes)) for k in range(count)]


def made(plan):
    if len(plan) == 1:
        leaf = {"never": Never, "always": Always}.get(plan[0])
        return Letter(plan[0]) if leaf is None else leaf()
    if plan[0] == "not":
        return Not(made(plan[1]))
    return FOLDS[plan[0]](made(plan[1]), made(plan[2]))


def text_of(plan):
    if len(plan) == 1:
        return plan[0]
    if plan[0] == "not":
        return "not " + text_of(plan[1])
    return "( " + text_of(plan[1]) + " " + plan[0] + " " + text_of(plan[2]) + " )"


def worth_of(plan, n, x, y):
    if len(plan) == 1:
        return {"never": 0, "always": n, "p": x, "q": y}[plan[0]]
    worths = [worth_of(part, n, x, y) for part in plan[1:]]
    if plan[0] == "not":
        return n - worths[0]
    one, other = worths
    return {
        "more": n if one + other > n else one + other,
        "less": 0 if one + other < n else one + other - n,
        "greater": one if one > other else other,
        "lesser": other if one > other else one,
        "leads": n if one <= other else n - (one - other),
    }[plan[0]]


def put_plan(plan, one, other):
    if len(plan) == 1:
        return {"p": one, "q": other}.get(plan[0], plan)
    return (plan[0],) + tuple(put_plan(part, one, other) for part in plan[1:])


def words_of(plan):
    return text_of(plan).split(" ")


def some_points(chance, count):
    points = []
    for k in range(count):
        n = chance.choice((1, 2, 3, 7, 40, LARGE, SIXTY))
        points.append((n, chance.randrange(n + 1), chance.randrange(n + 1)))
    return points


def pair(x):
    return (x.numerator, x.denominator)


def height_on(line, x):
    for end, slope, height in line:
        if x <= Fraction(*end):
            return slope * x + height


def is_pair(thing):
    return (type(thing) is tuple and [type(part) for part in thing] == [int, int] and thing[1] >= 1
            and math.gcd(*thing) == 1)


# None where the thing is a line as [14] tells.
def line_fault(line):
    if type(line) is not tuple or line == ():
        return "no tuple of stretches"
    for stretch in line:
        if type(stretch) is not tuple or len(stretch) != 3 or not is_pair(stretch[0]):
            return "no stretch"
        if [type(number) for number in stretch[1:]] != [int, int]:
            return "no whole numbers"
    ends = [Fraction(0)] + [Fraction(*stretch[0]) for stretch in line]
    if ends != sorted(set(ends)) or ends[-1] != 1:
        return "ends amiss"
    for first, second in zip(line, line[1:]):
        end = Fraction(*first[0])
        if first[1] * end + first[2] != second[1] * end + second[2]:
            return "a jump"
        if first[1:] == second[1:]:
            return "neighbours alike"
    return None


# Whole slopes and heights on both sides of an end a / b are those that differ by k b and - k a.
def some_line(chance, count, bottoms=(2, 3, 4, 5, 6, 7, 12), steepness=3):
    ends = set()
    while len(ends) < count - 1:
        bottom = chance.choice(bottoms)
        ends.add(Fraction(chance.randrange(1, bottom), bottom))
    slope = chance.randrange(-9, 10)
    height = chance.randrange(-4, 5)
    line = []
    for end in sorted(ends):
        line.append((pair(end), slope, height))
        k = chance.choice([k for k in range(-steepness, steepness + 1) if k != 0])
        slope += k * end.denominator
        height -= k * end.numerator
    return tuple(line) + (((1, 1), slope, height),)


# Where two rules of all these lines meet, all ends, and a place between each two of these.
def places_on(*lines):
    rules = sorted({stretch[1:] for line in lines for stretch in line})
    places = {Fraction(0)} | {Fraction(*stretch[0]) for line in lines for stretch in line}
    for slope, height in rules:
        for other_slope, other_height in rules:
            if slope != other_slope:
                places.add(Fraction(other_height - height, slope - other_slope))
    places = sorted(place for place in places if 0 <= place <= 1)
    return places + [(first + second) / 2 for first, second in zip(places, places[1:])]
