"""A desk: it keeps sayings by names, and is told lines that it answers."""

from leansay.errors import NoCall, NoName, TooMany
from leansay.fractions import whole_written, written
from leansay.lacks import alike, lack
from leansay.leasts import always, fewest_steps, least_worth
from leansay.meanings import line_of
from leansay.points import worth
from leansay.reading import MOST_PARTS, read
from leansay.rows import rows_of
from leansay.sayings import put_in

LETTERS = "abcdefghijklmnopqrstuvwxyz"
FIGURES = "0123456789"
MOST_LETTERS = 8
MOST_FIGURES = 20

# What stands behind each call's first word: "new" is a name by which nothing need be kept, "text" is anything.
FORMS = {
    "say": ("new", "text"),
    "put": ("new", "name", "name", "name"),
    "show": ("name",),
    "names": (),
    "drop": ("name",),
    "worth": ("name", "number", "number", "number"),
    "rows": ("name",),
    "line": ("name",),
    "least": ("name",),
    "lack": ("name", "name"),
    "always": ("name",),
    "alike": ("name", "name"),
    "steps": ("name",),
}


def is_made_of(word, signs, most):
    return 1 <= len(word) <= most and all([sign in signs for sign in word])


def is_name(word):
    return is_made_of(word, LETTERS, MOST_LETTERS)


def is_number(word):
    return is_made_of(word, FIGURES, MOST_FIGURES) and (word == "0" or not word.startswith("0"))


def is_word_of(kind, word):
    if kind == "text":
        return True
    return is_number(word) if kind == "number" else is_name(word)


# A text has blanks of its own.
def words_of(line):
    return line.split(" ", 2) if line.startswith("say ") else line.split(" ")


def is_call(words):
    form = FORMS.get(words[0])
    if form is None or len(form) != len(words) - 1:
        return False
    return all([is_word_of(kind, word) for kind, word in zip(form, words[1:])])


def names_asked(words):
    return [word for kind, word in zip(FORMS[words[0]], words[1:]) if kind == "name"]


def stretch_written(stretch):
    return " ".join([written(stretch[0]), whole_written(stretch[1]), whole_written(stretch[2])])


def line_written(saying):
    return "; ".join([stretch_written(stretch) for stretch in line_of(saying)])


def worth_written(saying, numbers):
    return whole_written(worth(saying, tuple([int(number) for number in numbers])))


def steps_written(saying):
    steps = fewest_steps(saying)
    return "none" if steps is None else whole_written(steps[0])


def yes_or_no(truth):
    return "yes" if truth else "no"


def asked_of_one(word, saying):
    if word == "show":
        return saying.told()
    if word == "rows":
        return whole_written(len(rows_of(saying)))
    if word == "line":
        return line_written(saying)
    if word == "least":
        return written(least_worth(saying)[0])
    if word == "always":
        return yes_or_no(always(saying)[0] == "always")
    return steps_written(saying)


def asked_of_two(word, one, other):
    if word == "lack":
        return written(lack(one, other)[0])
    return yes_or_no(alike(one, other)[0] == "alike")


class Desk:
    def __init__(self):
        self.kept = {}

    def must_keep(self, names):
        for name in names:
            if name not in self.kept:
                raise NoName(name)

    def keep(self, name, saying):
        if saying.parts() > MOST_PARTS:
            raise TooMany("a saying that is kept has at most twenty-four parts")
        self.kept[name] = saying
        return whole_written(saying.parts())

    def drop(self, name):
        self.kept.pop(name)
        return "dropped"

    def names(self):
        return "none" if self.kept == {} else " ".join(sorted(self.kept))

    def answer(self, words):
        sayings = [self.kept[name] for name in names_asked(words)]
        if words[0] == "say":
            return self.keep(words[1], read(words[2]))
        if words[0] == "put":
            return self.keep(words[1], put_in(sayings[0], sayings[1], sayings[2]))
        if words[0] == "names":
            return self.names()
        if words[0] == "drop":
            return self.drop(words[1])
        if words[0] == "worth":
            return worth_written(sayings[0], words[2:])
        if len(sayings) == 2:
            return asked_of_two(words[0], sayings[0], sayings[1])
        return asked_of_one(words[0], sayings[0])

    def tell(self, line):
        words = words_of(line)
        if not is_call(words):
            raise NoCall(line)
        self.must_keep(names_asked(words))
        return self.answer(words)
