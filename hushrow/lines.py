"""The desk's lines: a line's text, taken apart by the count and the places of its words (point 33).

A line is a tuple with its first word ahead and what its other words tell behind: names and rows as
texts, numbers and ranks as whole numbers; ("look", name, steps) with steps True or False,
("list", gifts, name, numbers) with a list of numbers.
"""

from hushrow.forms import name_told, whole
from hushrow.ranks import rank_told
from hushrow.things import number_of

MOST_NUMBERS = 20

# What the words behind the first one tell, of the lines that have always as many.
SHAPES = {
    "read": ("name",),
    "drop": ("name",),
    "rows": ("name",),
    "row": ("name", "number"),
    "even": ("name", "name", "rank"),
    "give": ("name", "name", "number"),
    "run": ("name", "name"),
    "value": ("name", "name", "name"),
    "part": ("name", "rank", "name", "name"),
    "try": ("name", "name", "rank"),
}


def line_of(text):
    """The line that the text tells, or None where it is of none of the forms."""
    words = text.split(" ")
    if words[0] == "add":
        return add_line(text)
    if words[0] == "look":
        return look_line(words)
    if words[0] == "list":
        return list_line(words)
    if words[0] in SHAPES:
        return shaped_line(words, SHAPES[words[0]])
    return None


def add_line(text):
    # The row may hold blanks, or be without signs: two cuts, and the rest is the row.
    words = text.split(" ", 2)
    if len(words) != 3:
        return None
    return whole([words[0], name_told(words[1]), words[2]])


def look_line(words):
    if len(words) == 2:
        return whole([words[0], name_told(words[1]), False])
    if len(words) == 3 and words[2] == "steps":
        return whole([words[0], name_told(words[1]), True])
    return None


def list_line(words):
    if not 4 <= len(words) <= 3 + MOST_NUMBERS:
        return None
    numbers = [number_of(word) for word in words[3:]]
    if whole(numbers) is None:
        return None
    return whole([words[0], name_told(words[1]), name_told(words[2]), numbers])


def shaped_line(words, shape):
    if len(words) != 1 + len(shape):
        return None
    return whole([words[0]] + [word_told(kind, word) for kind, word in zip(shape, words[1:])])


def word_told(kind, word):
    if kind == "name":
        return name_told(word)
    if kind == "number":
        return number_of(word)
    return rank_told(word)
