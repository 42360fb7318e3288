"""Point 11 and what point 12 tells of NoName: the names of a program, row by row."""

import unittest

from hushrow.names import Names
from hushrow.rows import (
    CallRow, DeedRow, GivenRow, HandRow, IfRow, LastRow, LetRow, LoopRow, OwnRow, PutRow, SayRow, SendRow, SetRow,
)

HEADS = [
    HandRow(1, "ann", 0), GivenRow(2, "g", 0, 0), GivenRow(3, "gl", 2, 3), OwnRow(4, "x", 0), OwnRow(5, "r", 3),
    LetRow(6, "m", 0), LetRow(7, "n", 0),
]
DEEDS = [DeedRow(8, "f", ["p", "q"], []), DeedRow(10, "e", [], [])]
ALL = ["ann", "g", "gl", "x", "r", "m", "n", "f", "p", "q", "e", "zzz"]


def known():
    """The names behind the heads and two deeds that have ended."""
    names = Names()
    for row in HEADS:
        names.keep(row)
    for row in DEEDS:
        names.keep(row)
        names.end_deed()
    return names


def within():
    """The same within a third deed, h, with the parts s and t."""
    names = known()
    names.keep(DeedRow(12, "h", ["s", "t"], []))
    return names


class Told(unittest.TestCase):
    def test_heads_and_deeds_of_new_names(self):
        names = Names()
        for row in HEADS + [DEEDS[0]]:
            self.assertIsNone(names.fault(row))
            names.keep(row)

    def test_two_alike_the_later_one_is_at_fault(self):
        for name in ALL[:-1] + ["s", "t", "h"]:
            for row in [
                HandRow(20, name, 1), GivenRow(20, name, 1, 0), GivenRow(20, name, 1, 2), OwnRow(20, name, 0),
                OwnRow(20, name, 2), LetRow(20, name, 1), DeedRow(20, name, ["a"], []), DeedRow(20, "b", [name], []),
                DeedRow(20, "b", ["a", name], []), DeedRow(20, "b", ["a", "c", "d", name], []),
            ]:
                with self.subTest(row=row.shown()):
                    self.assertEqual(within().fault(row), name)

    def test_alike_in_one_row(self):
        names = known()
        self.assertEqual(names.fault(DeedRow(20, "a", ["a"], [])), "a")
        self.assertEqual(names.fault(DeedRow(20, "a", ["b", "b"], [])), "b")
        self.assertEqual(names.fault(DeedRow(20, "a", ["b", "c", "d", "b"], [])), "b")
        self.assertEqual(names.fault(DeedRow(20, "a", ["b", "c", "c", "b"], [])), "c")
        self.assertIsNone(names.fault(DeedRow(20, "a", ["b", "c", "d", "i"], [])))

    def test_the_first_from_the_left(self):
        names = known()
        self.assertEqual(names.fault(DeedRow(20, "x", ["g", "m"], [])), "x")
        self.assertEqual(names.fault(DeedRow(20, "a", ["g", "m"], [])), "g")
        self.assertEqual(names.fault(DeedRow(20, "a", ["b", "m", "g"], [])), "m")

    def test_a_fault_keeps_nothing(self):
        names = known()
        names.fault(DeedRow(20, "a", ["b", "x"], []))
        self.assertIsNone(names.fault(OwnRow(21, "a", 0)))
        self.assertIsNone(names.fault(OwnRow(21, "b", 0)))


class Used(unittest.TestCase):
    """Each use by each name: which ones serve, in main and within a deed."""

    def check(self, make, main, deed):
        for name in ALL + ["s", "t", "h"]:
            row = make(name)
            with self.subTest(row=row.shown()):
                self.assertEqual(known().fault(row), None if name in main else name)
                self.assertEqual(within().fault(row), None if name in deed else name)

    def test_things(self):
        for make in [
            lambda a: SetRow(20, "x", (a,)), lambda a: SetRow(20, "x", (a, "+", 1)),
            lambda a: SetRow(20, "x", (1, "over", a)), lambda a: SetRow(20, "x", (a, "=", a)),
            lambda a: SetRow(20, "x", ("r", "at", a)), lambda a: SetRow(20, "x", ("gl", "at", a)),
            lambda a: PutRow(20, "r", a, (1,)), lambda a: PutRow(20, "r", 1, (a,)),
            lambda a: PutRow(20, "r", 1, (a, "rest", 1)), lambda a: SendRow(20, "ann", (a,)),
            lambda a: SayRow(20, "x", (a,), "m"), lambda a: IfRow(20, (a,), [], [], 0, 0),
            lambda a: IfRow(20, (1, "<", a), [], [], 1, 0), lambda a: LoopRow(20, a, 1, [], 0, 0),
            lambda a: CallRow(20, "f", [a, 1]), lambda a: CallRow(20, "f", [1, a]),
        ]:
            self.check(make, ["g", "x"], ["g", "x", "s", "t"])

    def test_lists_of_at(self):
        for make in [
            lambda a: SetRow(20, "x", (a, "at", 1)), lambda a: SendRow(20, "ann", (a, "at", 1)),
            lambda a: PutRow(20, "r", 0, (a, "at", 1)), lambda a: SayRow(20, "x", (a, "at", 1), "m"),
            lambda a: IfRow(20, (a, "at", "g"), [], [], 0, 0),
        ]:
            self.check(make, ["gl", "r"], ["gl", "r"])

    def test_set_and_say(self):
        self.check(lambda a: SetRow(20, a, (1,)), ["x"], ["x", "s", "t"])
        self.check(lambda a: SayRow(20, a, (1,), "m"), ["x"], ["x", "s", "t"])

    def test_put_send_by_and_call(self):
        self.check(lambda a: PutRow(20, a, 0, (1,)), ["r"], ["r"])
        self.check(lambda a: SendRow(20, a, (1,)), ["ann"], ["ann"])
        self.check(lambda a: SayRow(20, "x", (1,), a), ["m", "n"], ["m", "n"])
        self.check(lambda a: CallRow(20, a, []), ["e"], ["e"])
        self.check(lambda a: CallRow(20, a, [1, "x"]), ["f"], ["f"])

    def test_rows_without_names(self):
        for row in [LastRow(1), SetRow(1, "x", (1,)), IfRow(1, (1,), [], [], 0, 0), LoopRow(1, 1, 1, [], 0, 0)]:
            self.assertIsNone(known().fault(row))

    def test_the_first_from_the_left(self):
        for row, name in [
            (SetRow(1, "a", ("b", "+", "c")), "a"), (SetRow(1, "x", ("b", "+", "c")), "b"),
            (SetRow(1, "x", ("g", "+", "c")), "c"), (SetRow(1, "x", ("b", "at", "c")), "b"),
            (SetRow(1, "x", ("r", "at", "c")), "c"), (PutRow(1, "a", "b", ("c",)), "a"),
            (PutRow(1, "r", "b", ("c",)), "b"), (PutRow(1, "r", "g", ("c",)), "c"),
            (SendRow(1, "a", ("b",)), "a"), (SendRow(1, "ann", ("b",)), "b"),
            (SayRow(1, "a", ("b",), "c"), "a"), (SayRow(1, "x", ("b",), "c"), "b"), (SayRow(1, "x", ("g",), "c"), "c"),
            (CallRow(1, "a", ["b"]), "a"), (CallRow(1, "f", ["b", "c"]), "b"), (CallRow(1, "f", ["g", "c"]), "c"),
            (CallRow(1, "f", ["b"]), "f"), (IfRow(1, ("b", "<", "c"), [], [], 0, 0), "b"),
        ]:
            with self.subTest(row=row.shown()):
                self.assertEqual(known().fault(row), name)

    def test_words_between_are_no_names(self):
        names = known()
        names.keep(OwnRow(20, "over", 0))
        names.keep(OwnRow(21, "at", 2))
        self.assertIsNone(names.fault(SetRow(22, "over", ("over", "over", "over"))))
        self.assertIsNone(names.fault(SetRow(22, "over", ("at", "at", "over"))))
        self.assertIsNone(known().fault(SetRow(22, "x", ("x", "rest", "g"))))
        self.assertEqual(names.fault(SetRow(22, "over", ("at", "over", "over"))), "at")


class Calls(unittest.TestCase):
    def test_too_few_and_too_many_things(self):
        for count in range(5):
            self.assertEqual(known().fault(CallRow(1, "f", [1] * count)), None if count == 2 else "f")
            self.assertEqual(known().fault(CallRow(1, "e", [1] * count)), None if count == 0 else "e")
        self.assertEqual(known().fault(CallRow(1, "f", ["zzz"])), "f")
        self.assertEqual(known().fault(CallRow(1, "f", ["zzz", 1, 1])), "f")

    def test_a_deed_within_itself_and_ahead_of_its_end(self):
        names = Names()
        self.assertEqual(names.fault(CallRow(1, "f", [1])), "f")
        names.keep(DeedRow(1, "f", ["p"], []))
        self.assertEqual(names.fault(CallRow(2, "f", [1])), "f")
        self.assertEqual(names.fault(CallRow(2, "f", ["p"])), "f")
        names.end_deed()
        self.assertIsNone(names.fault(CallRow(4, "f", [1])))
        names.keep(DeedRow(5, "g", [], []))
        self.assertIsNone(names.fault(CallRow(6, "f", [1])))
        self.assertEqual(names.fault(CallRow(6, "g", [])), "g")

    def test_parts_outside_of_their_deed(self):
        names = within()
        self.assertIsNone(names.fault(SetRow(13, "s", ("t",))))
        names.end_deed()
        self.assertEqual(names.fault(SetRow(15, "s", ("t",))), "s")
        self.assertEqual(names.fault(SetRow(15, "x", ("t",))), "t")
        names.keep(DeedRow(16, "i", ["u"], []))
        self.assertEqual(names.fault(SetRow(17, "u", ("t",))), "t")
        self.assertIsNone(names.fault(SetRow(17, "u", ("u",))))


class Marks(unittest.TestCase):
    def test_by_each_mark_one_row_says(self):
        names = known()
        row = SayRow(20, "x", ("g",), "m")
        self.assertIsNone(names.fault(row))
        self.assertIsNone(names.fault(row))
        names.keep(row)
        self.assertEqual(names.fault(SayRow(21, "x", ("g",), "m")), "m")
        self.assertEqual(names.fault(SayRow(21, "zzz", ("g",), "m")), "zzz")
        self.assertIsNone(names.fault(SayRow(21, "x", ("g",), "n")))

    def test_one_in_a_deed_and_one_in_main(self):
        names = within()
        names.keep(SayRow(13, "s", ("t",), "n"))
        names.end_deed()
        self.assertEqual(names.fault(SayRow(16, "x", (1,), "n")), "n")
        self.assertIsNone(names.fault(SayRow(16, "x", (1,), "m")))


class Kept(unittest.TestCase):
    """Point 2."""

    def test_rows_stay_and_names_are_apart(self):
        deed = DeedRow(20, "a", ["b", "c"], [])
        names = known()
        names.fault(deed)
        names.keep(deed)
        names.end_deed()
        self.assertEqual((deed.name, deed.parts, deed.body), ("a", ["b", "c"], []))
        self.assertIsNone(known().fault(deed))


if __name__ == "__main__":
    unittest.main()
