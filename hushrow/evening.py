"""Evening out: ifs and loops made balanced, so that steps tell nothing (points 27 and 28)."""

from hushrow.costs import balanced, exacts, most_of, mosts
from hushrow.places import laid_program, row_place
from hushrow.ranks import fits
from hushrow.reach import table
from hushrow.rows import CallRow, DeedRow, GivenRow, HandRow, IfRow, LastRow, LetRow, LoopRow
from hushrow.rows import OwnRow, Program, PutRow, SayRow, SendRow, SetRow


def rows_above(program, floor):
    """The ifs and loops whose sets don't fit the floor, in the order of the text."""
    bits = table(program)
    found = []
    for row, place, loop in laid_program(program):
        if isinstance(row, IfRow) or isinstance(row, LoopRow):
            if not fits(bits[row_place(row.number)], floor):
                found.append(row)
    return found


def uneven(program, floor=0):
    known = exacts(program)
    return sorted([row.number for row in rows_above(program, floor) if not balanced(row, known)])


def evened(program, floor=0):
    above = dict([(row.number, True) for row in rows_above(program, floor)])
    known = mosts(program)
    heads = [head_copy(head) for head in program.heads]
    deeds = [deed_copy(deed, above, known) for deed in program.deeds]
    return Program(heads, deeds, rows_evened(program.main, above, known))


def head_copy(head):
    if isinstance(head, HandRow):
        return HandRow(head.number, head.name, head.rank)
    if isinstance(head, GivenRow):
        return GivenRow(head.number, head.name, head.rank, head.size)
    if isinstance(head, OwnRow):
        return OwnRow(head.number, head.name, head.size)
    return LetRow(head.number, head.name, head.rank)


def deed_copy(deed, above, known):
    return DeedRow(deed.number, deed.name, deed.parts, rows_evened(deed.body, above, known))


def rows_evened(rows, above, known):
    return [row_evened(row, above, known) for row in rows]


def row_evened(row, above, known):
    """A new row: evened out where its number stands in above, else as it was."""
    if isinstance(row, IfRow):
        return if_evened(row, above, known)
    if isinstance(row, LoopRow):
        return loop_evened(row, above, known)
    return plain_copy(row)


def plain_copy(row):
    if isinstance(row, SetRow):
        return SetRow(row.number, row.name, row.value)
    if isinstance(row, PutRow):
        return PutRow(row.number, row.name, row.place, row.value)
    if isinstance(row, SendRow):
        return SendRow(row.number, row.name, row.value)
    if isinstance(row, SayRow):
        return SayRow(row.number, row.name, row.value, row.mark)
    if isinstance(row, CallRow):
        return CallRow(row.number, row.name, row.things)
    return LastRow(row.number)


def if_evened(row, above, known):
    left = row.left
    right = row.right
    if row.number in above:
        # Of the sides as they were: evening out what stands within leaves their most steps.
        one = most_of(row.first, known)
        other = most_of(row.other, known)
        greater = max(left + one, right + other)
        left = greater - one
        right = greater - other
    first = rows_evened(row.first, above, known)
    return IfRow(row.number, row.value, first, rows_evened(row.other, above, known), left, right)


def loop_evened(row, above, known):
    left = row.left
    right = row.right
    if row.number in above:
        steps = most_of(row.body, known)
        right = max(left + steps, right)
        left = right - steps
    return LoopRow(row.number, row.thing, row.most, rows_evened(row.body, above, known), left, right)
