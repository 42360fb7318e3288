"""The refusals: one class for each, all of them straight under HushError."""


class HushError(ValueError):
    pass


class NoRank(HushError):
    def __init__(self, word):
        self.word = word


class NoRow(HushError):
    def __init__(self, row):
        self.row = row


class NoNest(HushError):
    def __init__(self, row):
        self.row = row


class TooMuch(HushError):
    def __init__(self, row):
        self.row = row


class NoName(HushError):
    def __init__(self, row, name):
        self.row = row
        self.name = name


class TooLong(HushError):
    def __init__(self, steps):
        self.steps = steps


class NoGift(HushError):
    def __init__(self, name):
        self.name = name


class NotAlike(HushError):
    def __init__(self, name):
        self.name = name


class Leak(HushError):
    def __init__(self, row, rank, chain):
        self.row = row
        self.rank = rank
        # A copy: whoever catches the refusal may change its chain freely.
        self.chain = list(chain)


class NoLine(HushError):
    pass


class Unknown(HushError):
    def __init__(self, name):
        self.name = name
