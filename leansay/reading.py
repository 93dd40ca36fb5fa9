"""Reading: the saying whose text it is."""

from leansay.errors import NoText, TooMany
from leansay.sayings import Not, fold_by, how_many_it_takes, leaf_by

MOST_PARTS = 24


# What is wanted is "saying" (a saying's first word), "fold" (a fold's word) or ")".
def fits(word, wanted):
    if wanted == "saying":
        return word == "(" or how_many_it_takes(word) in (0, 1)
    if wanted == "fold":
        return how_many_it_takes(word) == 2
    return word == wanted


# What is still wanted can always follow, so the first word that does not fit is the first that cannot stand there.
def fault_in(words):
    wanted = ["saying"]
    for at, word in enumerate(words):
        if wanted == [] or not fits(word, wanted.pop()):
            return at
        if word == "not":
            wanted.append("saying")
        if word == "(":
            wanted.extend([")", "saying", "fold", "saying"])
    return None if wanted == [] else len(words)


# From the end on, each word that takes sayings comes when those are made already; a fold is made at its bracket.
def made_of_words(words):
    made = []
    fold_words = []
    for word in reversed(words):
        if word == "(":
            one = made.pop()
            other = made.pop()
            made.append(fold_by(fold_words.pop(), one, other))
        elif word == "not":
            made.append(Not(made.pop()))
        elif how_many_it_takes(word) == 2:
            fold_words.append(word)
        elif word != ")":
            made.append(leaf_by(word))
    return made.pop()


def read(text):
    words = text.split(" ")
    at = fault_in(words)
    if at is not None:
        raise NoText(at)
    saying = made_of_words(words)
    if saying.parts() > MOST_PARTS:
        raise TooMany("a saying that is read has at most twenty-four parts")
    return saying
