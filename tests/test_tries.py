"""Points 2 and 32, and the interface of tries."""

import unittest

from hushrow.pairs import laid
from hushrow.reader import read
from hushrow.tries import told_apart, tried

HEADS = ["hand ann open", "given a open", "own x", "given l closed 3", "let m open", "given c closed", "hand cy closed"]


def program_of(main):
    return read(HEADS + ["main"] + main + ["end"])


class Tried(unittest.TestCase):
    def test_all_twelve_of_a_number(self):
        tries = tried(program_of([]), "c")
        self.assertEqual(len(tries), 12)
        wanted = []
        for j in range(4):
            for d in (1, 2, 5):
                one = {"a": j, "l": [2 * j, 2 * j + 1, 2 * j + 2], "c": 3 * j}
                wanted.append((one, {**one, "c": 3 * j + d}))
        self.assertEqual(tries, wanted)
        self.assertIs(type(tries), list)
        self.assertIs(type(tries[0]), tuple)

    def test_all_twelve_of_a_list(self):
        wanted = []
        for j in range(4):
            for d in (1, 2, 5):
                one = {"a": j, "l": [2 * j, 2 * j + 1, 2 * j + 2], "c": 3 * j}
                wanted.append((one, {**one, "l": [2 * j + d, 2 * j + 1 + d, 2 * j + 2 + d]}))
        self.assertEqual(tried(program_of([]), "l"), wanted)

    def test_the_first_and_the_last_written_out(self):
        tries = tried(read(["given a open", "main", "end"]), "a")
        self.assertEqual([(one["a"], other["a"]) for one, other in tries], [
            (0, 1), (0, 2), (0, 5), (1, 2), (1, 3), (1, 6), (2, 3), (2, 4), (2, 7), (3, 4), (3, 5), (3, 8),
        ])

    def test_the_names_of_the_givens_alone_in_the_order_of_the_heads(self):
        for one, other in tried(program_of([]), "a"):
            self.assertEqual(list(one), ["a", "l", "c"])
            self.assertEqual(list(other), ["a", "l", "c"])

    def test_each_gifts_a_dict_of_its_own(self):
        program = program_of([])
        first = tried(program, "c")
        told = tried(program, "c")
        dicts = [part for pair in told for part in pair]
        self.assertEqual(len({id(part) for part in dicts}), 24)
        self.assertEqual(len({id(part["l"]) for part in dicts}), 24)
        told[0][0]["l"].clear()
        told[0][1].clear()
        self.assertEqual(told[1:], first[1:])
        told.clear()
        self.assertEqual(tried(program, "c"), first)


class ToldApart(unittest.TestCase):
    def check(self, main, name, rank, at):
        """at is the number of the first try that tells the given apart, or None."""
        program = program_of(main)
        told = told_apart(program, name, rank)
        if at is None:
            self.assertIsNone(told)
        else:
            one, other = tried(program, name)[at]
            self.assertEqual(told, (one, other, laid(program, rank, one, other)))
            self.assertIs(type(told), tuple)
            self.assertIsNotNone(told[2])

    def test_at_the_first_try(self):
        self.check(["send ann c"], "c", 0, 0)
        self.check(["send ann l at 2"], "l", 0, 0)
        self.check(["if c", "send ann 1", "else", "end"], "c", 0, 0)

    def test_at_a_later_try(self):
        self.check(["send ann c over 2"], "c", 0, 1)
        self.check(["send ann c over 5"], "c", 0, 2)
        self.check(["send ann c over 4"], "c", 0, 2)
        self.check(["set x c < 4", "send ann x"], "c", 0, 2)
        self.check(["set x c < 7", "send ann x"], "c", 0, 5)
        self.check(["set x c < 9", "send ann x"], "c", 0, 8)
        self.check(["set x 13 < c", "send ann x"], "c", 0, 11)

    def test_none(self):
        self.check(["set x 14 < c", "send ann x"], "c", 0, None)
        self.check(["send ann a"], "c", 0, None)
        self.check([], "c", 2, None)
        self.check(["if c", "set x 1", "else", "end", "send ann 1"], "c", 0, None)

    def test_by_the_rank(self):
        self.check(["send cy c"], "c", 0, None)
        self.check(["send cy c"], "c", 1, None)
        self.check(["send cy c"], "c", 2, 0)

    def test_written_out(self):
        told = told_apart(program_of(["send ann 9", "send ann c over 2"]), "c", 0)
        self.assertEqual(told, (
            {"a": 0, "l": [0, 1, 2], "c": 0}, {"a": 0, "l": [0, 1, 2], "c": 2},
            (1, (2, 10, "ann", 0), (2, 10, "ann", 1)),
        ))


if __name__ == "__main__":
    unittest.main()
