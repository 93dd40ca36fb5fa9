"""Sayings: how they are made, written, counted, weighed at a point and put in one another."""

# How many sayings each word takes to make one of them.
TAKEN = {"never": 0, "always": 0, "p": 0, "q": 0, "not": 1, "more": 2, "less": 2, "greater": 2, "lesser": 2, "leads": 2}


# Sayings that were put in one another may be made of parts within parts beyond any number that recursion bears:
# so all walks here are loops. Each kind of saying adds to the methods below
#   making_word(): the word by which it is made of the sayings in it;
#   pieces(): its words and the sayings that it is made of, in the order in which they are written;
#   weigh(worths, n, x, y): takes the worths of what it is made of from the end of worths, and puts its own there;
#   remake(made, one, other): the same with the sayings that put_in makes.
class Saying:
    def made_of(self):
        return []

    def pieces(self):
        return [self.making_word()]

    # Each part as often as it stands there, behind those that it is made of, the one's ahead of the other's.
    def laid_out(self):
        laid = []
        waiting = [self]
        while waiting:
            part = waiting.pop()
            laid.append(part)
            waiting.extend(part.made_of())
        laid.reverse()
        return laid

    def told(self):
        words = []
        waiting = [self]
        while waiting:
            piece = waiting.pop()
            if isinstance(piece, str):
                words.append(piece)
            else:
                waiting.extend(list(reversed(piece.pieces())))
        return " ".join(words)

    def out_of(self, n, x, y):
        worths = []
        for part in self.laid_out():
            part.weigh(worths, n, x, y)
        return worths.pop()

    def parts(self):
        return len(self.laid_out())

    def folds(self):
        return len([part for part in self.laid_out() if isinstance(part, Fold)])

    def letters(self):
        return sorted(set([part.name for part in self.laid_out() if isinstance(part, Letter)]))


class Never(Saying):
    def making_word(self):
        return "never"

    def weigh(self, worths, n, x, y):
        worths.append(0)

    def remake(self, made, one, other):
        made.append(self)


class Always(Saying):
    def making_word(self):
        return "always"

    def weigh(self, worths, n, x, y):
        worths.append(n)

    def remake(self, made, one, other):
        made.append(self)


class Letter(Saying):
    def __init__(self, name):
        self.name = name

    def making_word(self):
        return self.name

    def weigh(self, worths, n, x, y):
        worths.append(x if self.name == "p" else y)

    def remake(self, made, one, other):
        made.append(one if self.name == "p" else other)


class Not(Saying):
    def __init__(self, part):
        self.part = part

    def made_of(self):
        return [self.part]

    def making_word(self):
        return "not"

    def pieces(self):
        return ["not", self.part]

    def weigh(self, worths, n, x, y):
        worths.append(n - worths.pop())

    def remake(self, made, one, other):
        made.append(Not(made.pop()))


# Each fold adds its worth folded(n, first, second) of the worths of both, and refolded(first, second), a fold of
# the same kind.
class Fold(Saying):
    def __init__(self, one, other):
        self.one = one
        self.other = other

    def made_of(self):
        return [self.one, self.other]

    def pieces(self):
        return ["(", self.one, self.making_word(), self.other, ")"]

    def weigh(self, worths, n, x, y):
        second = worths.pop()
        first = worths.pop()
        worths.append(self.folded(n, first, second))

    def remake(self, made, one, other):
        second = made.pop()
        first = made.pop()
        made.append(self.refolded(first, second))


class More(Fold):
    def making_word(self):
        return "more"

    def folded(self, n, first, second):
        return min(first + second, n)

    def refolded(self, first, second):
        return More(first, second)


class Less(Fold):
    def making_word(self):
        return "less"

    def folded(self, n, first, second):
        return max(first + second - n, 0)

    def refolded(self, first, second):
        return Less(first, second)


class Greater(Fold):
    def making_word(self):
        return "greater"

    def folded(self, n, first, second):
        return max(first, second)

    def refolded(self, first, second):
        return Greater(first, second)


class Lesser(Fold):
    def making_word(self):
        return "lesser"

    def folded(self, n, first, second):
        return min(first, second)

    def refolded(self, first, second):
        return Lesser(first, second)


class Leads(Fold):
    def making_word(self):
        return "leads"

    def folded(self, n, first, second):
        return min(n - first + second, n)

    def refolded(self, first, second):
        return Leads(first, second)


# None where no saying is made by the word.
def how_many_it_takes(word):
    return TAKEN.get(word)


def leaf_by(word):
    if word == "never":
        return Never()
    if word == "always":
        return Always()
    return Letter(word)


def fold_by(word, one, other):
    if word == "more":
        return More(one, other)
    if word == "less":
        return Less(one, other)
    if word == "greater":
        return Greater(one, other)
    if word == "lesser":
        return Lesser(one, other)
    return Leads(one, other)


def put_in(saying, one, other):
    made = []
    for part in saying.laid_out():
        part.remake(made, one, other)
    return made.pop()
