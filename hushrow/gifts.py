"""Gifts, and what a run begins with (points 17 and 18)."""

from hushrow.errors import NoGift
from hushrow.rows import GivenRow, OwnRow

MOST_NUMBER = 999999999999


def is_number(thing):
    # A truth is an int for Python, but no whole number here.
    if isinstance(thing, bool) or not isinstance(thing, int):
        return False
    return 0 <= thing <= MOST_NUMBER


def is_good(gift, size):
    if size == 0:
        return is_number(gift)
    return isinstance(gift, list) and len(gift) == size and all([is_number(thing) for thing in gift])


def given_cell(given, gifts):
    gift = gifts.get(given.name)
    # Where the gift lacks, None stands there, which is good for no given.
    if not is_good(gift, given.size):
        raise NoGift(given.name)
    return gift if given.size == 0 else list(gift)


def own_cell(own):
    return 0 if own.size == 0 else [0] * own.size


def cells_of(program, gifts):
    cells = {}
    for head in program.heads:
        if isinstance(head, GivenRow):
            cells[head.name] = given_cell(head, gifts)
        elif isinstance(head, OwnRow):
            cells[head.name] = own_cell(head)
    for deed in program.deeds:
        for part in deed.parts:
            cells[part] = 0
    return cells
