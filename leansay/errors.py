"""The refusals of Leansay, each a class of its own right under SayError."""


class SayError(ValueError):
    pass


# The base's own __init__ is left alone in the refusals with fields: so their args stay the fields, and a copy of
# such an error can be made of them.


class NoText(SayError):
    def __init__(self, at):
        self.at = at


class NoRows(SayError):
    def __init__(self, at):
        self.at = at


class NoLine(SayError):
    def __init__(self, word, at):
        self.word = word
        self.at = at


class NoCall(SayError):
    def __init__(self, line):
        self.line = line


class NoName(SayError):
    def __init__(self, name):
        self.name = name


class NoNumber(SayError):
    pass


class TooMany(SayError):
    pass


class NoPoint(SayError):
    pass


class NoLetter(SayError):
    pass


class NoCut(SayError):
    pass
