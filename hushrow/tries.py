"""Gifts that tell a given apart, sought by twelve tries (point 32)."""

from hushrow.pairs import laid
from hushrow.rows import GivenRow

BEGINS = (0, 1, 2, 3)
MORES = (1, 2, 5)


def gift_made(size, start):
    if size == 0:
        return start
    return [start + place for place in range(size)]


def gifts_made(program, begin, name, more):
    """The gifts of a try, the one of this name being so much more."""
    givens = [head for head in program.heads if isinstance(head, GivenRow)]
    gifts = {}
    for at, given in enumerate(givens):
        start = begin * (at + 1)
        if given.name == name:
            start += more
        gifts[given.name] = gift_made(given.size, start)
    return gifts


def tried(program, name):
    found = []
    for begin in BEGINS:
        for more in MORES:
            found.append((gifts_made(program, begin, name, 0), gifts_made(program, begin, name, more)))
    return found


def told_apart(program, name, rank):
    for one, other in tried(program, name):
        unlike = laid(program, rank, one, other)
        if unlike is not None:
            return (one, other, unlike)
    return None
