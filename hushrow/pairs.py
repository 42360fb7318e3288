"""Two runs of a program side by side (points 29 to 31)."""

from hushrow.errors import NotAlike
from hushrow.looker import ranks_told
from hushrow.places import laid_program, under
from hushrow.ranks import fits
from hushrow.reach import table
from hushrow.rows import GivenRow, SayRow
from hushrow.runner import run


def unlike_given(program, rank, one, other):
    for head in program.heads:
        if isinstance(head, GivenRow) and head.rank <= rank and one[head.name] != other[head.name]:
            return head.name
    return None


def common_rows(program, rank):
    """A dict from the number of each row to whether it is common for the rank."""
    bits = table(program)
    common = {}
    for number, place in under(program).items():
        common[number] = place is None or fits(bits[place], rank)
    return common


def parting_rows(program, rank):
    """The numbers of the says at which a walk for the rank may part."""
    ranks = ranks_told(program)
    found = []
    for row, place, loop in laid_program(program):
        if isinstance(row, SayRow) and ranks[row.mark] <= rank:
            found.append(row.number)
    return found


def next_common(trace, at, common):
    """The place in the trace of the first common row from at on, or the trace's length."""
    while at < len(trace) and not common[trace[at][0]]:
        at += 1
    return at


def pairs_of(word, entries):
    return [(word, entry[0]) for entry in entries]


def walk(program, rank, one, other):
    first = run(program, one).trace
    second = run(program, other).trace
    name = unlike_given(program, rank, one, other)
    if name is not None:
        raise NotAlike(name)
    return walked(first, second, common_rows(program, rank), parting_rows(program, rank))


def walked(first, second, common, parting):
    pairs = []
    left = 0
    right = 0
    while True:
        here = next_common(first, left, common)
        there = next_common(second, right, common)
        pairs.extend(pairs_of("one", first[left:here]) + pairs_of("other", second[right:there]))
        # Both runs have the same common rows, so both end here where one does.
        if here == len(first) or there == len(second):
            return (pairs, None)
        number = first[here][0]
        pairs.append(("both", number))
        if number in parting and first[here][2] != second[there][2]:
            return (pairs, (number, first[here][2], second[there][2]))
        left = here + 1
        right = there + 1


def seen(program, book, rank):
    ranks = ranks_told(program)
    return [letter for letter in book.letters if ranks[letter[2]] <= rank]


def letter_at(letters, at):
    return letters[at] if at < len(letters) else None


def told_by(letter):
    """What counts of a letter: its hand and its number."""
    return None if letter is None else (letter[2], letter[3])


def laid(program, rank, one, other):
    first = seen(program, run(program, one), rank)
    second = seen(program, run(program, other), rank)
    for at in range(max(len(first), len(second))):
        mine = letter_at(first, at)
        yours = letter_at(second, at)
        if told_by(mine) != told_by(yours):
            return (at, mine, yours)
    return None
