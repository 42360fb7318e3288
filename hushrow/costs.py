"""Steps by the text alone: the most that rows can take, and the exact ones (points 14 and 15)."""

from hushrow.rows import CallRow, IfRow, LoopRow


def most_of(rows, known):
    return sum([most_of_row(row, known) for row in rows])


def most_of_row(row, known):
    if isinstance(row, CallRow):
        return 1 + known[row.name]
    if isinstance(row, IfRow):
        one = row.left + most_of(row.first, known)
        other = row.right + most_of(row.other, known)
        return 1 + max(one, other)
    if isinstance(row, LoopRow):
        return 1 + row.most * max(row.left + most_of(row.body, known), row.right)
    return 1


def exact_of(rows, known):
    steps = 0
    for row in rows:
        more = exact_of_row(row, known)
        if more is None:
            return None
        steps += more
    return steps


def exact_of_row(row, known):
    if isinstance(row, CallRow):
        return one_more(known[row.name])
    if isinstance(row, IfRow):
        return exact_of_if(row, known)
    if isinstance(row, LoopRow):
        return exact_of_loop(row, known)
    return 1


def one_more(steps):
    return None if steps is None else 1 + steps


def exact_of_if(row, known):
    one = exact_of(row.first, known)
    other = exact_of(row.other, known)
    if one is None or other is None or row.left + one != row.right + other:
        return None
    return 1 + row.left + one


def exact_of_loop(row, known):
    steps = exact_of(row.body, known)
    if steps is None or row.left + steps != row.right:
        return None
    return 1 + row.most * row.right


def balanced(row, known):
    # An if or loop has exact steps just where it is balanced.
    return exact_of_row(row, known) is not None


def mosts(program):
    known = {}
    for deed in program.deeds:
        known[deed.name] = most_of(deed.body, known)
    return known


def exacts(program):
    known = {}
    for deed in program.deeds:
        known[deed.name] = exact_of(deed.body, known)
    return known


def most(program):
    return most_of(program.main, mosts(program))


def exact(program):
    return exact_of(program.main, exacts(program))
