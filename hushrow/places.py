"""The places of a program, and what its rows lie under (points 20 and 21)."""

from hushrow.rows import GivenRow, IfRow, LetRow, LoopRow, OwnRow, SayRow, SendRow

CLOCK = "the clock"


def row_place(number):
    return f"row {number}"


def laid_rows(rows, place, loop):
    """Each of these rows, and of the rows within them, as (row, the place it lies under, the place of
    the innermost loop around it), in the order of the text; None where there is no such place."""
    found = []
    for row in rows:
        found.append((row, place, loop))
        found.extend(laid_inside(row, loop))
    return found


def laid_inside(row, loop):
    here = row_place(row.number)
    if isinstance(row, IfRow):
        return laid_rows(row.first, here, loop) + laid_rows(row.other, here, loop)
    if isinstance(row, LoopRow):
        return laid_rows(row.body, here, here)
    return []


def laid_program(program):
    found = []
    for deed in program.deeds:
        found.extend(laid_rows(deed.body, deed.name, None))
    return found + laid_rows(program.main, None, None)


def is_place(row):
    return isinstance(row, IfRow) or isinstance(row, LoopRow) or isinstance(row, SendRow) or isinstance(row, SayRow)


def head_places(heads):
    found = []
    for head in heads:
        # A hand is none: it is told of at its sends.
        if isinstance(head, GivenRow) or isinstance(head, OwnRow) or isinstance(head, LetRow):
            found.append(head.name)
    return found


def places(program):
    found = head_places(program.heads)
    for deed in program.deeds:
        found.extend([deed.name] + deed.parts)
    for row, place, loop in laid_program(program):
        if is_place(row):
            found.append(row_place(row.number))
    return found + [CLOCK]


def under(program):
    return dict([(row.number, place) for row, place, loop in laid_program(program)])
