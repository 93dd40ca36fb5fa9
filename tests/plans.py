"""Sayings told without the program, as plans: ("never",), .., ("not", plan), (word, plan, plan)."""

import random

from leansay.sayings import Always, Greater, Leads, Less, Lesser, Letter, More, Never, Not

FOLDS = {"more": More, "less": Less, "greater": Greater, "lesser": Lesser, "leads": Leads}
P = Letter("p")
Q = Letter("q")
LARGE = 10 ** 20 + 39
SIXTY = 10 ** 60 - 1


def some_plan(chance, size):
    if size == 1:
        return (chance.choice(("never", "always", "p", "q", "p", "q")),)
    if size == 2 or chance.randrange(5) == 0:
        return ("not", some_plan(chance, size - 1))
    ahead = chance.randrange(1, size - 1)
    return (chance.choice(tuple(FOLDS)), some_plan(chance, ahead), some_plan(chance, size - 1 - ahead))


def some_plans(count, sizes):
    chance = random.Random(10)
    return [some_plan(chance, chance.choice(sizes)) for k in range(count)]


def made(plan):
    if len(plan) == 1:
        leaf = {"never": Never, "always": Always}.get(plan[0])
        return Letter(plan[0]) if leaf is None else leaf()
    if plan[0] == "not":
        return Not(made(plan[1]))
    return FOLDS[plan[0]](made(plan[1]), made(plan[2]))


def text_of(plan):
    if len(plan) == 1:
        return plan[0]
    if plan[0] == "not":
        return "not " + text_of(plan[1])
    return "( " + text_of(plan[1]) + " " + plan[0] + " " + text_of(plan[2]) + " )"


def worth_of(plan, n, x, y):
    if len(plan) == 1:
        return {"never": 0, "always": n, "p": x, "q": y}[plan[0]]
    worths = [worth_of(part, n, x, y) for part in plan[1:]]
    if plan[0] == "not":
        return n - worths[0]
    one, other = worths
    return {
        "more": n if one + other > n else one + other,
        "less": 0 if one + other < n else one + other - n,
        "greater": one if one > other else other,
        "lesser": other if one > other else one,
        "leads": n if one <= other else n - (one - other),
    }[plan[0]]


def put_plan(plan, one, other):
    if len(plan) == 1:
        return {"p": one, "q": other}.get(plan[0], plan)
    return (plan[0],) + tuple(put_plan(part, one, other) for part in plan[1:])


def words_of(plan):
    return text_of(plan).split(" ")


def some_points(chance, count):
    points = []
    for k in range(count):
        n = chance.choice((1, 2, 3, 7, 40, LARGE, SIXTY))
        points.append((n, chance.randrange(n + 1), chance.randrange(n + 1)))
    return points
