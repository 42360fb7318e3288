"""Points 2, 5 and 6, and the interface under hushrow/ranks.py."""

import unittest

from hushrow.errors import NoRank
from hushrow.ranks import (
    all_joined,
    fits,
    holds,
    joined,
    only,
    rank_of,
    rank_told,
    ranks_in,
    top,
    up_to,
    word_of,
)

RANKS = (0, 1, 2)

# The eight sets: bits, the ranks in them, the top.
SETS = [
    (0, [], -1),
    (1, [0], 0),
    (2, [1], 1),
    (3, [0, 1], 1),
    (4, [2], 2),
    (5, [0, 2], 2),
    (6, [1, 2], 2),
    (7, [0, 1, 2], 2),
]

NEARLY = [
    "", " ", "Open", "OPEN", "House", "CLOSED", "clOsed",
    " open", "open ", "house\n", "\tclosed", "o pen", "open house",
    "ope", "pen", "opens", "hous", "houses", "close", "closedd", "losed",
    "0", "1", "2", "rank", "op\u0435n", "\uff4fpen", "none",
]


class Whole(unittest.TestCase):
    def same_number(self, told, number):
        self.assertIs(type(told), int)
        self.assertEqual(told, number)


class Words(Whole):
    def test_rank_of_each_word(self):
        self.same_number(rank_of("open"), 0)
        self.same_number(rank_of("house"), 1)
        self.same_number(rank_of("closed"), 2)

    def test_word_of_each_rank(self):
        self.assertEqual([word_of(rank) for rank in RANKS], ["open", "house", "closed"])

    def test_word_put_together_sign_by_sign(self):
        self.same_number(rank_of("".join(["ho", "use"])), 1)

    def test_nearly_words_are_refused(self):
        for word in NEARLY:
            with self.subTest(word=word):
                with self.assertRaises(NoRank) as caught:
                    rank_of(word)
                self.assertEqual(caught.exception.word, word)

    def test_rank_told_of_any_word(self):
        for rank, word in enumerate(["open", "house", "closed"]):
            self.same_number(rank_told(word), rank)
        for word in NEARLY:
            self.assertIsNone(rank_told(word))


class Bits(Whole):
    def test_only(self):
        for rank, bits in zip(RANKS, (1, 2, 4)):
            self.same_number(only(rank), bits)

    def test_up_to(self):
        for rank, bits in zip(RANKS, (1, 3, 7)):
            self.same_number(up_to(rank), bits)

    def test_joined(self):
        for one, first, _ in SETS:
            for other, second, _ in SETS:
                with self.subTest(one=one, other=other):
                    ranks = set(first) | set(second)
                    self.same_number(joined(one, other), sum(2 ** rank for rank in ranks))

    def test_all_joined(self):
        self.same_number(all_joined([]), 0)
        self.same_number(all_joined([0]), 0)
        self.same_number(all_joined([0, 0]), 0)
        self.same_number(all_joined([4]), 4)
        self.same_number(all_joined([1, 4]), 5)
        self.same_number(all_joined([1, 1, 1]), 1)
        self.same_number(all_joined([3, 6]), 7)
        self.same_number(all_joined([1, 2, 4]), 7)
        self.same_number(all_joined([4, 0, 2]), 6)

    def test_holds(self):
        for bits, ranks, _ in SETS:
            for rank in RANKS:
                with self.subTest(bits=bits, rank=rank):
                    self.assertIs(holds(bits, rank), rank in ranks)

    def test_ranks_in(self):
        for bits, ranks, _ in SETS:
            with self.subTest(bits=bits):
                told = ranks_in(bits)
                self.assertIs(type(told), list)
                self.assertEqual(told, ranks)
                self.assertEqual([type(rank) for rank in told], [int] * len(ranks))

    def test_top(self):
        for bits, _, highest in SETS:
            with self.subTest(bits=bits):
                self.same_number(top(bits), highest)

    def test_fits(self):
        for bits, ranks, _ in SETS:
            for rank in RANKS:
                with self.subTest(bits=bits, rank=rank):
                    self.assertIs(fits(bits, rank), not [r for r in ranks if r > rank])

    def test_the_set_0_fits_each_rank(self):
        self.assertEqual([fits(0, rank) for rank in RANKS], [True, True, True])

    def test_somewhat_beyond_the_bounds_nothing_is_refused(self):
        self.same_number(only(3), 8)
        self.same_number(up_to(3), 15)
        self.same_number(joined(8, 1), 9)
        self.same_number(top(9), 3)
        self.assertEqual(ranks_in(9), [0, 3])
        self.assertIs(fits(8, 2), False)
        self.assertIs(holds(7, 3), False)


class OwnLists(Whole):
    def test_the_list_handed_in_stays(self):
        sets = [4, 1, 0, 1]
        all_joined(sets)
        self.assertEqual(sets, [4, 1, 0, 1])

    def test_a_told_list_is_the_askers_own(self):
        for bits, ranks, _ in SETS:
            ranks_in(bits).append(9)
            self.assertEqual(ranks_in(bits), ranks)
            self.assertIsNot(ranks_in(bits), ranks_in(bits))


if __name__ == "__main__":
    unittest.main()
