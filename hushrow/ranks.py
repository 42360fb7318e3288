"""Ranks, and sets of ranks told by bits."""

from hushrow.errors import NoRank

# The place of a word in this tuple is its rank.
WORDS = ("open", "house", "closed")


def rank_told(word):
    """The rank, or None: for those who ask whether a word tells one at all."""
    if word not in WORDS:
        return None
    return WORDS.index(word)


def rank_of(word):
    rank = rank_told(word)
    if rank is None:
        raise NoRank(word)
    return rank


def word_of(rank):
    return WORDS[rank]


def only(rank):
    return 1 << rank


def up_to(rank):
    # One less than the next rank's bit is the sum of all bits below it.
    return only(rank + 1) - 1


def joined(one, other):
    return one | other


def all_joined(sets):
    bits = 0
    for one in sets:
        bits = joined(bits, one)
    return bits


def holds(bits, rank):
    return (bits & only(rank)) != 0


def ranks_in(bits):
    return [rank for rank in range(bits.bit_length()) if holds(bits, rank)]


def top(bits):
    return bits.bit_length() - 1


def fits(bits, rank):
    # The top of the set 0 is -1, so it fits each rank.
    return top(bits) <= rank
