"""Point 16, and the interface of sums."""

import unittest

from hushrow.sums import reckon, round_place

MOST = 10 ** 12 - 1

SUMS = [
    (1, "+", 2, 3), (0, "+", 0, 0), (MOST, "+", 0, MOST), (MOST, "+", 1, 0), (MOST, "+", MOST, MOST - 1),
    (5, "-", 3, 2), (3, "-", 3, 0), (3, "-", 5, MOST - 1), (0, "-", 1, MOST), (0, "-", MOST, 1), (MOST, "-", 0, MOST),
    (6, "*", 7, 42), (0, "*", MOST, 0), (MOST, "*", 1, MOST), (MOST, "*", 2, MOST - 1), (MOST, "*", MOST, 1),
    (10 ** 6, "*", 10 ** 6, 0), (10 ** 6, "*", 10 ** 6 - 1, 10 ** 12 - 10 ** 6),
    (7, "over", 2, 3), (6, "over", 2, 3), (1, "over", 2, 0), (0, "over", 5, 0), (5, "over", 0, 0), (0, "over", 0, 0),
    (MOST, "over", 1, MOST), (MOST, "over", MOST, 1), (MOST, "over", 10 ** 6, 10 ** 6 - 1),
    (7, "rest", 2, 1), (6, "rest", 2, 0), (1, "rest", 2, 1), (0, "rest", 5, 0), (5, "rest", 0, 5), (0, "rest", 0, 0),
    (MOST, "rest", 0, MOST), (MOST, "rest", 1, 0), (MOST, "rest", 10 ** 6, 10 ** 6 - 1), (5, "rest", MOST, 5),
    (1, "<", 2, 1), (2, "<", 1, 0), (2, "<", 2, 0), (0, "<", MOST, 1), (MOST, "<", 0, 0),
    (2, "=", 2, 1), (2, "=", 3, 0), (3, "=", 2, 0), (0, "=", 0, 1), (MOST, "=", MOST, 1), (MOST, "=", 0, 0),
]


class Sums(unittest.TestCase):
    def test_each(self):
        for one, word, other, outcome in SUMS:
            with self.subTest(one=one, word=word, other=other):
                self.assertEqual(reckon(one, word, other), outcome)
                self.assertIs(type(reckon(one, word, other)), int)

    def test_over_and_rest_belong_together(self):
        for one in (0, 1, 2, 11, 12, 13, MOST):
            for other in (0, 1, 2, 3, 12, MOST):
                over, rest = reckon(one, "over", other), reckon(one, "rest", other)
                self.assertEqual(over * other + rest, one)

    def test_every_outcome_is_a_number(self):
        ends = (0, 1, 2, MOST - 1, MOST)
        for one in ends:
            for other in ends:
                for word in ("+", "-", "*", "over", "rest", "<", "="):
                    self.assertTrue(0 <= reckon(one, word, other) <= MOST)


class Places(unittest.TestCase):
    def test_places_go_round(self):
        for place, size, outcome in [
            (0, 1, 0), (1, 1, 0), (MOST, 1, 0), (0, 5, 0), (4, 5, 4), (5, 5, 0), (6, 5, 1), (9, 5, 4), (10, 5, 0),
            (19, 20, 19), (20, 20, 0), (21, 20, 1), (MOST, 20, 19), (MOST, 7, MOST % 7),
        ]:
            self.assertEqual(round_place(place, size), outcome)
            self.assertIs(type(round_place(place, size)), int)


if __name__ == "__main__":
    unittest.main()
