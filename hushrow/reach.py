"""What reaches what by chains of links (points 20, 23 and 24)."""

from hushrow.links import links
from hushrow.places import places
from hushrow.ranks import joined, only
from hushrow.rows import GivenRow, LetRow


def sources(program):
    return [(head.name, head.rank) for head in program.heads if isinstance(head, GivenRow) or isinstance(head, LetRow)]


def sources_of(program, rank):
    return [place for place, its_rank in sources(program) if its_rank == rank]


def ways_of(program, steps):
    """A dict from each place to the links that lead from it."""
    ways = dict([(place, []) for place in places(program)])
    for link in links(program, steps):
        ways[link[0]].append(link)
    return ways


def arrivals(ways, starts):
    """A dict from each place that these reach to the link by which it is reached soonest, None for
    the starts themselves."""
    came = dict([(place, None) for place in starts])
    waiting = list(starts)
    at = 0
    # What waits is taken in the order in which it was reached: so no shorter way comes later.
    while at < len(waiting):
        here = waiting[at]
        for link in ways[here]:
            if link[1] not in came:
                came[link[1]] = link
                waiting.append(link[1])
        at += 1
    return came


def reached(program, name, steps=False):
    return sorted(arrivals(ways_of(program, steps), [name]))


def table(program, steps=False):
    ways = ways_of(program, steps)
    bits = dict([(place, 0) for place in places(program)])
    for rank in sorted(set([rank for place, rank in sources(program)])):
        for place in arrivals(ways, sources_of(program, rank)):
            bits[place] = joined(bits[place], only(rank))
    return bits


def chain(program, place, rank, steps=False):
    came = arrivals(ways_of(program, steps), sources_of(program, rank))
    if place not in came:
        return None
    found = []
    link = came[place]
    while link is not None:
        found.append(link)
        link = came[link[0]]
    return list(reversed(found))
