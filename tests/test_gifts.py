"""Points 2, 17 and 18 (what a run begins with), and the interface of gifts."""

import unittest

from hushrow.errors import NoGift
from hushrow.gifts import cells_of
from hushrow.reader import read

MOST = 10 ** 12 - 1

PROGRAM = read([
    "hand ann open", "given b open", "own x", "given l house 3", "own r 4", "let m open", "given a closed",
    "given k closed 1", "own s 1", "deed f p q", "end", "deed g", "end", "deed h z", "end", "main", "end",
])
GOOD = {"b": 7, "l": [1, 0, MOST], "a": 0, "k": [5]}

NO_NUMBERS = [True, False, -1, MOST + 1, 10 ** 30, -10 ** 30, "7", "", "b", None, [], [7], (7,), {}, {7: 7}, 7.0, 0.0,
              1j, b"7", object(), int, float("nan"), float("inf"), [[7]]]
NO_LISTS = [[], [1], [1, 2], [1, 2, 3, 4], (1, 2, 3), "123", "abc", 7, 0, None, True, {}, {1: 1, 2: 2, 3: 3},
            {1, 2, 3}, range(3), [1, 2, True], [False, 2, 3], [1, 2, -1], [1, MOST + 1, 3], [1, "2", 3], [1, None, 3],
            [[1], 2, 3], [1, 2, 3.0], [1, 2, [3]], iter([1, 2, 3]), b"123", object()]


def missing(gifts):
    try:
        cells_of(PROGRAM, gifts)
    except NoGift as refused:
        return refused.name
    return None


class Begin(unittest.TestCase):
    def test_givens_owns_and_parts(self):
        self.assertEqual(cells_of(PROGRAM, GOOD), {
            "b": 7, "l": [1, 0, MOST], "a": 0, "k": [5], "x": 0, "r": [0, 0, 0, 0], "s": [0], "p": 0, "q": 0, "z": 0,
        })

    def test_the_ends_of_numbers(self):
        for number in (0, 1, MOST):
            self.assertIsNone(missing({**GOOD, "b": number, "k": [number]}))

    def test_other_names_are_not_looked_at(self):
        more = {**GOOD, "x": 9, "p": 9, "ann": -1, "m": None, "zzz": "?", "f": [], "r": 3, 5: 6, None: 1, "B": 1}
        self.assertEqual(cells_of(PROGRAM, more), cells_of(PROGRAM, GOOD))

    def test_a_program_without_givens(self):
        self.assertEqual(cells_of(read(["own x", "main", "end"]), {}), {"x": 0})
        self.assertEqual(cells_of(read(["main", "end"]), {"a": None}), {})


class Refused(unittest.TestCase):
    def test_one_that_lacks(self):
        for name in GOOD:
            self.assertEqual(missing({key: gift for key, gift in GOOD.items() if key != name}), name)

    def test_no_numbers(self):
        for gift in NO_NUMBERS:
            with self.subTest(gift=gift):
                self.assertEqual(missing({**GOOD, "b": gift}), "b")
                self.assertEqual(missing({**GOOD, "a": gift}), "a")

    def test_no_lists(self):
        for gift in NO_LISTS:
            with self.subTest(gift=gift):
                self.assertEqual(missing({**GOOD, "l": gift}), "l")

    def test_no_list_of_one(self):
        for gift in [5, [], [5, 5], [True], ["5"], [None], (5,), None]:
            self.assertEqual(missing({**GOOD, "k": gift}), "k")

    def test_something_in_a_list_that_is_no_number(self):
        for thing in NO_NUMBERS:
            for at in range(3):
                gift = [1, 2, 3]
                gift[at] = thing
                self.assertEqual(missing({**GOOD, "l": gift}), "l")

    def test_the_first_in_the_order_of_the_heads(self):
        self.assertEqual(missing({}), "b")
        self.assertEqual(missing({"a": 1, "k": [1]}), "b")
        self.assertEqual(missing({"k": [True], "a": -1, "b": 1}), "l")
        self.assertEqual(missing({"k": [True], "l": [1, 2, 3], "a": -1, "b": 1}), "a")
        self.assertEqual(missing({"k": [True], "l": [1, 2, 3], "a": 1, "b": 1}), "k")


class Kept(unittest.TestCase):
    """Point 2."""

    def test_lists_are_new_ones(self):
        gifts = {"b": 7, "l": [1, 2, 3], "a": 0, "k": [5]}
        one, other = cells_of(PROGRAM, gifts), cells_of(PROGRAM, gifts)
        for name in ("l", "k", "r", "s"):
            one[name].append(9)
        one.clear()
        self.assertEqual(gifts, {"b": 7, "l": [1, 2, 3], "a": 0, "k": [5]})
        self.assertEqual((other["l"], other["k"], other["r"], other["s"]), ([1, 2, 3], [5], [0, 0, 0, 0], [0]))
        gifts["l"].clear()
        self.assertEqual(other["l"], [1, 2, 3])
        self.assertEqual(cells_of(PROGRAM, GOOD)["r"], [0, 0, 0, 0])

    def test_one_list_for_two_givens(self):
        program = read(["given a open 2", "given b open 2", "main", "end"])
        shared = [1, 2]
        cells = cells_of(program, {"a": shared, "b": shared})
        cells["a"][0] = 9
        self.assertEqual(cells["b"], [1, 2])

    def test_gifts_that_are_refused_stay(self):
        gifts = {"b": 7, "l": [1, 2]}
        self.assertEqual(missing(gifts), "l")
        self.assertEqual(gifts, {"b": 7, "l": [1, 2]})


if __name__ == "__main__":
    unittest.main()
