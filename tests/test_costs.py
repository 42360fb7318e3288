"""Points 2, 14 and 15, and the interface of costs."""

import unittest

from hushrow.costs import balanced, exact, exact_of, exacts, most, most_of, mosts
from hushrow.rows import (
    CallRow, DeedRow, IfRow, LastRow, LoopRow, Program, PutRow, SayRow, SendRow, SetRow,
)

ONE = SetRow(1, "x", (1,))
PLAIN = [ONE, PutRow(2, "r", 0, (1,)), SendRow(3, "ann", ("x",)), SayRow(4, "x", (1,), "m"), LastRow(5)]


def steps(count):
    return [ONE] * count


def branch(one, other, left=0, right=0):
    return IfRow(9, ("x",), one, other, left, right)


def rounds(most_rounds, body, left=0, right=0):
    return LoopRow(9, "x", most_rounds, body, left, right)


def deed(name, body):
    return DeedRow(1, name, [], body)


# A row, its most steps, and its exact steps or None.
ROWS = [
    (branch([], []), 1, 1),
    (branch(steps(2), steps(2)), 3, 3),
    (branch(steps(2), steps(3)), 4, None),
    (branch(steps(3), steps(2)), 4, None),
    (branch(steps(1), []), 2, None),
    (branch([], steps(1)), 2, None),
    (branch(steps(1), [], 0, 1), 2, 2),
    (branch([], steps(1), 1, 0), 2, 2),
    (branch([], [], 4, 4), 5, 5),
    (branch([], [], 4, 5), 6, None),
    (branch([], [], 4, 3), 5, None),
    (branch(steps(2), steps(5), 3, 0), 6, 6),
    (branch(steps(2), steps(5), 4, 0), 7, None),
    (branch(steps(2), steps(5), 2, 0), 6, None),
    (branch(steps(2), steps(5), 7, 4), 10, 10),
    (branch([], [], 10 ** 12 - 1, 0), 10 ** 12, None),
    (rounds(1, []), 1, 1),
    (rounds(100, []), 1, 1),
    (rounds(1, steps(3)), 4, None),
    (rounds(100, steps(3)), 301, None),
    (rounds(1, steps(3), 0, 3), 4, 4),
    (rounds(100, steps(3), 0, 3), 301, 301),
    (rounds(100, steps(3), 0, 4), 401, None),
    (rounds(100, steps(3), 0, 2), 301, None),
    (rounds(100, steps(3), 1, 4), 401, 401),
    (rounds(7, [], 2, 0), 15, None),
    (rounds(7, [], 0, 2), 15, None),
    (rounds(7, [], 2, 2), 15, 15),
    (rounds(7, [], 2, 3), 22, None),
    (rounds(7, [LastRow(2)], 1, 2), 15, 15),
    # What holds rows without exact steps has none, though it would seem balanced by its most steps.
    (branch([branch(steps(1), [])], steps(2)), 3, None),
    (branch(steps(2), [branch([], steps(1))]), 3, None),
    (branch([rounds(2, steps(1))], steps(3)), 4, None),
    (rounds(3, [branch(steps(1), [])], 0, 2), 7, None),
    (rounds(3, [branch(steps(1), [], 0, 1)], 0, 2), 7, 7),
    (rounds(3, [rounds(2, steps(1), 0, 1)], 1, 4), 13, 13),
]


class EachRow(unittest.TestCase):
    def test_plain_rows(self):
        for row in PLAIN:
            self.assertEqual(most_of([row], {}), 1)
            self.assertEqual(exact_of([row], {}), 1)
        self.assertEqual(most_of(PLAIN, {}), 5)
        self.assertEqual(exact_of(PLAIN, {}), 5)

    def test_no_rows(self):
        self.assertEqual(most_of([], {}), 0)
        self.assertEqual(exact_of([], {}), 0)
        self.assertIs(type(most_of([], {})), int)
        self.assertIs(type(exact_of([], {})), int)

    def test_ifs_and_loops(self):
        for row, most_steps, exact_steps in ROWS:
            with self.subTest(row=row.shown(), most=most_steps, exact=exact_steps):
                self.assertEqual(most_of([row], {}), most_steps)
                self.assertEqual(exact_of([row], {}), exact_steps)
                self.assertIs(balanced(row, {}), exact_steps is not None)
                self.assertIn(exact_of([row], {}), (None, most_of([row], {})))

    def test_calls(self):
        self.assertEqual(most_of([CallRow(1, "f", [])], {"f": 0}), 1)
        self.assertEqual(most_of([CallRow(1, "f", ["x", 3])], {"f": 12, "g": 5}), 13)
        self.assertEqual(exact_of([CallRow(1, "f", [])], {"f": 0}), 1)
        self.assertEqual(exact_of([CallRow(1, "f", ["x", 3])], {"f": 12, "g": None}), 13)
        self.assertIsNone(exact_of([CallRow(1, "g", [])], {"f": 12, "g": None}))

    def test_one_row_after_another(self):
        rows = PLAIN + [row for row, most_steps, exact_steps in ROWS]
        self.assertEqual(most_of(rows, {}), 5 + sum(most_steps for row, most_steps, exact_steps in ROWS))
        self.assertIsNone(exact_of(rows, {}))
        good = [row for row, most_steps, exact_steps in ROWS if exact_steps is not None]
        self.assertEqual(exact_of(good, {}), most_of(good, {}))

    def test_a_row_without_exact_steps_first_midst_and_last(self):
        uneven = branch(steps(1), [])
        for rows in ([uneven, ONE], [ONE, uneven, ONE], [ONE, uneven], [uneven]):
            self.assertIsNone(exact_of(rows, {}))

    def test_six_deep(self):
        row, inner_most = ONE, 1
        for deep in range(6):
            row = rounds(2, [row], 1, inner_most + 1)
            inner_most = 1 + 2 * (inner_most + 1)
        self.assertEqual(inner_most, 253)
        self.assertEqual(most_of([row], {}), inner_most)
        self.assertEqual(exact_of([row], {}), inner_most)
        self.assertIs(balanced(row, {}), True)
        row = ONE
        for deep in range(6):
            row = rounds(100, [row])
        self.assertEqual(most_of([row], {}), 1010101010101)
        self.assertIsNone(exact_of([row], {}))

    def test_balanced_asks_of_calls(self):
        row = branch([CallRow(1, "f", [])], steps(4))
        self.assertIs(balanced(row, {"f": 3}), True)
        self.assertIs(balanced(row, {"f": 2}), False)
        self.assertIs(balanced(row, {"f": None}), False)
        loop = rounds(5, [CallRow(1, "f", [])], 0, 4)
        self.assertIs(balanced(loop, {"f": 3}), True)
        self.assertIs(balanced(loop, {"f": 4}), False)
        self.assertIs(balanced(loop, {"f": None}), False)


class Programs(unittest.TestCase):
    def test_deeds_that_call_deeds(self):
        program = Program([], [
            deed("f", steps(3)),
            deed("g", [CallRow(1, "f", []), CallRow(1, "f", [])]),
            deed("h", [branch([CallRow(1, "g", [])], [])]),
            deed("i", [rounds(2, [CallRow(1, "f", [])], 0, 4)]),
            deed("j", [CallRow(1, "h", [])]),
        ], [CallRow(1, "g", []), CallRow(1, "j", [])])
        self.assertEqual(mosts(program), {"f": 3, "g": 8, "h": 10, "i": 9, "j": 11})
        self.assertEqual(exacts(program), {"f": 3, "g": 8, "h": None, "i": 9, "j": None})
        self.assertEqual(most(program), 21)
        self.assertIsNone(exact(program))

    def test_exact_of_main(self):
        program = Program([], [deed("f", steps(3)), deed("g", [branch([], steps(1))])], [CallRow(1, "f", []), ONE])
        self.assertEqual(exact(program), 5)
        self.assertEqual(most(program), 5)

    def test_empty(self):
        program = Program([], [], [])
        self.assertEqual((mosts(program), exacts(program), most(program), exact(program)), ({}, {}, 0, 0))
        self.assertEqual(mosts(Program([], [deed("f", [])], [])), {"f": 0})
        self.assertEqual(exacts(Program([], [deed("f", [])], [])), {"f": 0})


class Kept(unittest.TestCase):
    """Point 2."""

    def test_what_is_told_is_the_askers_own(self):
        program = Program([], [deed("f", steps(3))], [CallRow(1, "f", [])])
        for ask in (mosts, exacts):
            ask(program).clear()
            ask(program)["f"] = 99
            self.assertEqual(ask(program), {"f": 3})
        self.assertEqual((most(program), exact(program)), (4, 4))

    def test_what_is_handed_in_stays(self):
        known = {"f": 3, "g": None}
        rows = [CallRow(1, "f", []), branch(steps(1), [CallRow(2, "g", [])])]
        most_of(rows[:1], known)
        exact_of(rows, known)
        balanced(rows[1], known)
        self.assertEqual(known, {"f": 3, "g": None})
        self.assertEqual(len(rows), 2)


if __name__ == "__main__":
    unittest.main()
