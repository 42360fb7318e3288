"""Links: which place tells itself to which, by which row (point 22)."""

from hushrow.costs import balanced, exacts
from hushrow.places import CLOCK, laid_program, row_place
from hushrow.rows import IfRow, LastRow, LoopRow, PutRow, SayRow, SendRow, SetRow


def drawn(froms, into, kind, number):
    """The links from each of these to one place; none from None, and none from it to itself."""
    return [(one, into, kind, number) for one in froms if one is not None and one != into]


def row_links(row, place, loop, parts_of):
    """The links that a row makes but for steps, place being the one under which it lies."""
    here = row_place(row.number)
    if isinstance(row, SetRow) or isinstance(row, PutRow):
        return drawn(row.reads(), row.name, "value", row.number) + drawn([place], row.name, "under", row.number)
    if isinstance(row, SendRow):
        return drawn(row.reads(), here, "value", row.number) + drawn([place], here, "under", row.number)
    if isinstance(row, SayRow):
        return said_links(row, place)
    if isinstance(row, IfRow) or isinstance(row, LoopRow):
        return drawn(row.reads(), here, "test", row.number) + drawn([place], here, "under", row.number)
    if isinstance(row, LastRow):
        return drawn([place], loop, "under", row.number)
    return called_links(row, place, parts_of[row.name])


def said_links(row, place):
    # What is said is let go by its owner: the mark answers for it, not the names in V.
    found = drawn([row.mark], row.name, "value", row.number)
    found.extend(drawn([place], row.name, "under", row.number))
    return found + drawn([place], row_place(row.number), "under", row.number)


def called_links(row, place, parts):
    found = []
    for thing, part in zip(row.things, parts):
        if isinstance(thing, str):
            found.extend(drawn([thing], part, "value", row.number))
    for into in parts + [row.name]:
        found.extend(drawn([place], into, "under", row.number))
    return found


def step_links(row, known):
    """The links that a row makes by steps alone."""
    here = row_place(row.number)
    if isinstance(row, SendRow) or isinstance(row, SayRow):
        return [(CLOCK, here, "steps", row.number)]
    if (isinstance(row, IfRow) or isinstance(row, LoopRow)) and not balanced(row, known):
        return [(here, CLOCK, "steps", row.number)]
    return []


def links(program, steps=False):
    parts_of = dict([(deed.name, deed.parts) for deed in program.deeds])
    known = exacts(program)
    found = []
    for row, place, loop in laid_program(program):
        found.extend(row_links(row, place, loop, parts_of))
        if steps:
            found.extend(step_links(row, known))
    return found
