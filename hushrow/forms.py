"""The forms of rows: the text of one row, taken apart by the count and the places of its words.

A form is a tuple with the row's first word ahead: ("hand", name, rank), ("let", name, rank),
("given", name, rank, size), ("own", name, size), ("deed", name, parts), ("main",),
("set", name, value), ("send", name, value), ("put", name, place, value),
("say", name, value, mark), ("call", name, things), ("last",), ("end",), ("else",),
("if", value, left, right), ("loop", thing, most, left, right). A size that is not told is 0, and
so are left and right.
"""

from hushrow.ranks import rank_told
from hushrow.things import is_name, number_of, thing_of, value_of

MOST_SIZE = 20
MOST_ROUNDS = 100
# Of a deed, and so of a call's things.
MOST_PARTS = 4


def whole(parts):
    # One part that its words don't tell, and the text is none of this form.
    if any([part is None for part in parts]):
        return None
    return tuple(parts)


def name_told(word):
    return word if is_name(word) else None


def number_up_to(word, most):
    """A number from 1 to most, or None."""
    number = number_of(word)
    if number is None or not 1 <= number <= most:
        return None
    return number


def alone_form(words):
    return (words[0],) if len(words) == 1 else None


def ranked_form(words):
    if len(words) != 3:
        return None
    return whole([words[0], name_told(words[1]), rank_told(words[2])])


def given_form(words):
    if len(words) == 3:
        return whole([words[0], name_told(words[1]), rank_told(words[2]), 0])
    if len(words) == 4:
        size = number_up_to(words[3], MOST_SIZE)
        return whole([words[0], name_told(words[1]), rank_told(words[2]), size])
    return None


def own_form(words):
    if len(words) == 2:
        return whole([words[0], name_told(words[1]), 0])
    if len(words) == 3:
        return whole([words[0], name_told(words[1]), number_up_to(words[2], MOST_SIZE)])
    return None


def deed_form(words):
    if not 2 <= len(words) <= 2 + MOST_PARTS:
        return None
    return listed_form(words, [name_told(word) for word in words[2:]])


def call_form(words):
    if not 2 <= len(words) <= 2 + MOST_PARTS:
        return None
    return listed_form(words, [thing_of(word) for word in words[2:]])


def listed_form(words, parts):
    if whole(parts) is None:
        return None
    return whole([words[0], name_told(words[1]), parts])


def named_value_form(words):
    if len(words) < 3:
        return None
    return whole([words[0], name_told(words[1]), value_of(words[2:])])


def put_form(words):
    if len(words) < 4:
        return None
    return whole([words[0], name_told(words[1]), thing_of(words[2]), value_of(words[3:])])


def say_form(words):
    # The by is told by its place alone: X, V and M may be spelled like it.
    if len(words) < 5 or words[-2] != "by":
        return None
    return whole([words[0], name_told(words[1]), value_of(words[2:-2]), name_told(words[-1])])


def if_form(words):
    # Four words behind the if are too many for V and need idle.
    if len(words) < 5:
        return whole([words[0], value_of(words[1:]), 0, 0])
    return idle_form([words[0], value_of(words[1:-3])], words[-3:])


def loop_form(words):
    if len(words) not in (4, 7) or words[2] != "most":
        return None
    parts = [words[0], thing_of(words[1]), number_up_to(words[3], MOST_ROUNDS)]
    if len(words) == 4:
        return whole(parts + [0, 0])
    return idle_form(parts, words[4:])


def idle_form(parts, words):
    left = number_of(words[1])
    right = number_of(words[2])
    if words[0] != "idle" or (left == 0 and right == 0):
        return None
    return whole(parts + [left, right])


TAKERS = {
    "hand": ranked_form,
    "let": ranked_form,
    "given": given_form,
    "own": own_form,
    "deed": deed_form,
    "main": alone_form,
    "set": named_value_form,
    "send": named_value_form,
    "put": put_form,
    "say": say_form,
    "call": call_form,
    "last": alone_form,
    "end": alone_form,
    "else": alone_form,
    "if": if_form,
    "loop": loop_form,
}


def form_of(text):
    """The form of a row, or None where the text has none of them."""
    words = text.split(" ")
    taker = TAKERS.get(words[0])
    if taker is None:
        return None
    return taker(words)
