"""The rows of a program, as a tree of objects (points 9, 10 and 13).

Each class keeps copies of the lists that it is made with: what is done to the one list later does
nothing to the other.
"""

from hushrow.ranks import word_of
from hushrow.things import names_in, value_shown


def row_text(words):
    return " ".join([str(word) for word in words])


def each_once(names):
    found = []
    for name in names:
        if name not in found:
            found.append(name)
    return found


def size_words(size):
    # A number has the size 0, which no row tells.
    return [] if size == 0 else [size]


def idle_words(left, right):
    return [] if left == 0 and right == 0 else ["idle", left, right]


class Row:
    def __init__(self, number):
        self.number = number

    # What most rows answer; those that read names or have a target say so themselves.
    def reads(self):
        return []

    def target(self):
        return None


class HandRow(Row):
    def __init__(self, number, name, rank):
        Row.__init__(self, number)
        self.name = name
        self.rank = rank

    def shown(self):
        return row_text(["hand", self.name, word_of(self.rank)])


class GivenRow(Row):
    def __init__(self, number, name, rank, size):
        Row.__init__(self, number)
        self.name = name
        self.rank = rank
        self.size = size

    def shown(self):
        return row_text(["given", self.name, word_of(self.rank)] + size_words(self.size))


class OwnRow(Row):
    def __init__(self, number, name, size):
        Row.__init__(self, number)
        self.name = name
        self.size = size

    def shown(self):
        return row_text(["own", self.name] + size_words(self.size))


class LetRow(Row):
    def __init__(self, number, name, rank):
        Row.__init__(self, number)
        self.name = name
        self.rank = rank

    def shown(self):
        return row_text(["let", self.name, word_of(self.rank)])


class SetRow(Row):
    def __init__(self, number, name, value):
        Row.__init__(self, number)
        self.name = name
        self.value = value

    def shown(self):
        return row_text(["set", self.name, value_shown(self.value)])

    def reads(self):
        return names_in(self.value)

    def target(self):
        return self.name


class PutRow(Row):
    def __init__(self, number, name, place, value):
        Row.__init__(self, number)
        self.name = name
        self.place = place
        self.value = value

    def shown(self):
        return row_text(["put", self.name, self.place, value_shown(self.value)])

    def reads(self):
        return each_once(names_in((self.place,)) + names_in(self.value))

    def target(self):
        return self.name


class SendRow(Row):
    def __init__(self, number, name, value):
        Row.__init__(self, number)
        self.name = name
        self.value = value

    def shown(self):
        return row_text(["send", self.name, value_shown(self.value)])

    def reads(self):
        return names_in(self.value)


class SayRow(Row):
    def __init__(self, number, name, value, mark):
        Row.__init__(self, number)
        self.name = name
        self.value = value
        self.mark = mark

    def shown(self):
        return row_text(["say", self.name, value_shown(self.value), "by", self.mark])

    def reads(self):
        return names_in(self.value)

    def target(self):
        return self.name


class CallRow(Row):
    def __init__(self, number, name, things):
        Row.__init__(self, number)
        self.name = name
        self.things = list(things)

    def shown(self):
        return row_text(["call", self.name] + self.things)

    def reads(self):
        return each_once([thing for thing in self.things if isinstance(thing, str)])


class LastRow(Row):
    def shown(self):
        return "last"


class IfRow(Row):
    def __init__(self, number, value, first, other, left, right):
        Row.__init__(self, number)
        self.value = value
        self.first = list(first)
        self.other = list(other)
        self.left = left
        self.right = right

    def shown(self):
        return row_text(["if", value_shown(self.value)] + idle_words(self.left, self.right))

    def reads(self):
        return names_in(self.value)


class LoopRow(Row):
    def __init__(self, number, thing, most, body, left, right):
        Row.__init__(self, number)
        self.thing = thing
        self.most = most
        self.body = list(body)
        self.left = left
        self.right = right

    def shown(self):
        return row_text(["loop", self.thing, "most", self.most] + idle_words(self.left, self.right))

    def reads(self):
        return names_in((self.thing,))


class DeedRow(Row):
    def __init__(self, number, name, parts, body):
        Row.__init__(self, number)
        self.name = name
        self.parts = list(parts)
        self.body = list(body)

    def shown(self):
        return row_text(["deed", self.name] + self.parts)


class Program:
    def __init__(self, heads, deeds, main):
        self.heads = list(heads)
        self.deeds = list(deeds)
        self.main = list(main)
