"""Rules: what each row is worth all over a hull."""

from leansay.hulls import told_in_corners
from leansay.rows import must_be_rows

NEVER = (0, 0, 0)
ALWAYS = (0, 0, 1)
LETTER_P = (1, 0, 0)
LETTER_Q = (0, 1, 0)


def both(one, other):
    return tuple([first + second for first, second in zip(one, other)])


def without(one, other):
    return tuple([first - second for first, second in zip(one, other)])


def leaf_rule(word):
    if word == "never":
        return NEVER
    if word == "always":
        return ALWAYS
    return LETTER_P if word == "p" else LETTER_Q


# A fold's test, its rule where the test is nowhere more than 0, and its rule where it is nowhere less.
def fold_choice(word, one, other):
    if word == "more":
        return (without(both(one, other), ALWAYS), both(one, other), ALWAYS)
    if word == "less":
        return (without(both(one, other), ALWAYS), NEVER, without(both(one, other), ALWAYS))
    if word == "greater":
        return (without(one, other), other, one)
    if word == "lesser":
        return (without(one, other), one, other)
    return (without(other, one), both(ALWAYS, without(other, one)), ALWAYS)


# What is no fold has one rule all over: its test is nought, so that rule is taken on each hull.
def choice_of(row, rules):
    if len(row) == 3:
        return fold_choice(row[0], rules[row[1]], rules[row[2]])
    rule = leaf_rule(row[0]) if len(row) == 1 else without(ALWAYS, rules[row[1]])
    return (NEVER, rule, rule)


# None where the test is more than 0 in one corner and less in another.
def chosen_on(hull, choice):
    told = told_in_corners(choice[0], hull)
    if max(told) <= 0:
        return choice[1]
    if min(told) >= 0:
        return choice[2]
    return None


# The rows of a saying that was put together may be more than rows handed in: so they are not counted here.
def rules_of_rows(rows, hull):
    rules = []
    for k, row in enumerate(rows):
        choice = choice_of(row, rules)
        rule = chosen_on(hull, choice)
        if rule is None:
            return ("mixed", k, choice[0])
        rules.append(rule)
    return ("rules", rules)


def rules_on(rows, hull):
    must_be_rows(rows)
    return rules_of_rows(rows, hull)
