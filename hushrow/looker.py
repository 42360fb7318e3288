"""The look: whether a program tells a hand or a mark what is not for it (points 3, 4, 25 and 26)."""

from hushrow.errors import Leak
from hushrow.places import laid_program, row_place
from hushrow.ranks import fits, top
from hushrow.reach import chain, table
from hushrow.rows import HandRow, LetRow, SayRow, SendRow


def ranks_told(program):
    """A dict from the hands and marks to their ranks."""
    ranks = {}
    for head in program.heads:
        if isinstance(head, HandRow) or isinstance(head, LetRow):
            ranks[head.name] = head.rank
    return ranks


def demands(program):
    ranks = ranks_told(program)
    found = []
    for row, place, loop in laid_program(program):
        if isinstance(row, SendRow):
            found.append((row.number, ranks[row.name]))
        elif isinstance(row, SayRow):
            found.append((row.number, ranks[row.mark]))
    return sorted(found)


def unmet_in(program, bits):
    return [number for number, rank in demands(program) if not fits(bits[row_place(number)], rank)]


def unmet(program, steps=False):
    return unmet_in(program, table(program, steps))


def let_by(program, steps=False):
    bits = table(program, steps)
    refused = unmet_in(program, bits)
    if refused == []:
        return True
    place = row_place(refused[0])
    rank = top(bits[place])
    raise Leak(refused[0], rank, chain(program, place, rank, steps))
