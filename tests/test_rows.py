"""Points 2, 8, 9, 10 and 13, and the interface of rows."""

import unittest

from hushrow.rows import (
    CallRow, DeedRow, GivenRow, HandRow, IfRow, LastRow, LetRow, LoopRow, OwnRow, Program, PutRow, Row, SayRow,
    SendRow, SetRow,
)

# Each class with its arguments, by their names, as the interface lists them.
MADE = [
    (HandRow, {"number": 1, "name": "ann", "rank": 0}),
    (GivenRow, {"number": 2, "name": "x", "rank": 2, "size": 0}),
    (OwnRow, {"number": 3, "name": "r", "size": 20}),
    (LetRow, {"number": 4, "name": "m", "rank": 1}),
    (SetRow, {"number": 5, "name": "y", "value": ("x", "+", 1)}),
    (PutRow, {"number": 6, "name": "r", "place": "x", "value": ("y",)}),
    (SendRow, {"number": 7, "name": "ann", "value": (0,)}),
    (SayRow, {"number": 8, "name": "y", "value": ("x",), "mark": "m"}),
    (CallRow, {"number": 9, "name": "f", "things": ["x", 4]}),
    (LastRow, {"number": 10}),
    (IfRow, {"number": 11, "value": ("x",), "first": [], "other": [], "left": 0, "right": 3}),
    (LoopRow, {"number": 12, "thing": 4, "most": 100, "body": [], "left": 1, "right": 0}),
    (DeedRow, {"number": 13, "name": "f", "parts": ["p", "q"], "body": []}),
]

CLASSES = [made for made, values in MADE]

SHOWN = [
    (HandRow(1, "ann", 0), "hand ann open"),
    (HandRow(1, "hand", 1), "hand hand house"),
    (HandRow(1, "closed", 2), "hand closed closed"),
    (GivenRow(1, "x", 0, 0), "given x open"),
    (GivenRow(1, "x", 1, 1), "given x house 1"),
    (GivenRow(1, "given", 2, 20), "given given closed 20"),
    (OwnRow(1, "x", 0), "own x"),
    (OwnRow(1, "own", 1), "own own 1"),
    (OwnRow(1, "r", 20), "own r 20"),
    (LetRow(1, "m", 0), "let m open"),
    (LetRow(1, "let", 2), "let let closed"),
    (SetRow(1, "x", (0,)), "set x 0"),
    (SetRow(1, "x", (999999999999,)), "set x 999999999999"),
    (SetRow(1, "x", ("a", "+", 1)), "set x a + 1"),
    (SetRow(1, "set", ("set", "over", "over")), "set set set over over"),
    (SetRow(1, "x", ("at", "at", "at")), "set x at at at"),
    (PutRow(1, "r", 0, (0,)), "put r 0 0"),
    (PutRow(1, "r", "a", ("s", "at", 3)), "put r a s at 3"),
    (PutRow(1, "put", "put", ("put",)), "put put put put"),
    (SendRow(1, "ann", ("x",)), "send ann x"),
    (SendRow(1, "ann", (1, "<", "x")), "send ann 1 < x"),
    (SayRow(1, "x", ("by",), "m"), "say x by by m"),
    (SayRow(1, "x", ("a", "rest", "b"), "m"), "say x a rest b by m"),
    (SayRow(1, "say", ("by", "at", "by"), "by"), "say say by at by by by"),
    (CallRow(1, "f", []), "call f"),
    (CallRow(1, "f", [0]), "call f 0"),
    (CallRow(1, "f", ["a", 0]), "call f a 0"),
    (CallRow(1, "f", ["a", "a", 7]), "call f a a 7"),
    (CallRow(1, "call", ["call", "call", 0, 0]), "call call call call 0 0"),
    (LastRow(1), "last"),
    (IfRow(1, ("x",), [], [], 0, 0), "if x"),
    (IfRow(1, ("x",), [], [], 0, 3), "if x idle 0 3"),
    (IfRow(1, ("x",), [], [], 3, 0), "if x idle 3 0"),
    (IfRow(1, ("idle",), [], [], 5, 999999999999), "if idle idle 5 999999999999"),
    (IfRow(1, ("a", "=", 0), [], [], 0, 0), "if a = 0"),
    (IfRow(1, ("a", "*", 0), [], [], 1, 2), "if a * 0 idle 1 2"),
    (LoopRow(1, 0, 1, [], 0, 0), "loop 0 most 1"),
    (LoopRow(1, "x", 100, [], 0, 0), "loop x most 100"),
    (LoopRow(1, "most", 7, [], 0, 2), "loop most most 7 idle 0 2"),
    (LoopRow(1, "loop", 7, [], 2, 0), "loop loop most 7 idle 2 0"),
    (LoopRow(1, 5, 7, [], 2, 1), "loop 5 most 7 idle 2 1"),
    (DeedRow(1, "f", [], []), "deed f"),
    (DeedRow(1, "f", ["p"], []), "deed f p"),
    (DeedRow(1, "deed", ["a", "b", "c", "d"], []), "deed deed a b c d"),
]

READS = [
    (HandRow(1, "ann", 0), []), (GivenRow(1, "x", 0, 3), []), (OwnRow(1, "x", 0), []), (LetRow(1, "m", 0), []),
    (LastRow(1), []), (DeedRow(1, "f", ["p", "q"], [SetRow(2, "x", ("y",))]), []),
    (SetRow(1, "x", (1,)), []), (SetRow(1, "x", ("x",)), ["x"]), (SetRow(1, "x", ("a", "+", "b")), ["a", "b"]),
    (SetRow(1, "x", ("b", "-", "a")), ["b", "a"]), (SetRow(1, "x", ("a", "*", "a")), ["a"]),
    (SetRow(1, "x", ("r", "at", "a")), ["r", "a"]), (SetRow(1, "x", ("r", "at", 0)), ["r"]),
    (SetRow(1, "x", (1, "over", 2)), []), (SetRow(1, "x", ("over", "over", "over")), ["over"]),
    (SetRow(1, "x", (1, "rest", "rest")), ["rest"]), (SetRow(1, "x", ("at", "at", "at")), ["at"]),
    (PutRow(1, "r", 0, (0,)), []), (PutRow(1, "r", "a", (0,)), ["a"]), (PutRow(1, "r", 0, ("b",)), ["b"]),
    (PutRow(1, "r", "a", ("b", "+", "c")), ["a", "b", "c"]), (PutRow(1, "r", "c", ("b", "+", "c")), ["c", "b"]),
    (PutRow(1, "r", "a", ("r", "at", "a")), ["a", "r"]), (PutRow(1, "r", "a", ("a",)), ["a"]),
    (SendRow(1, "ann", ("x",)), ["x"]), (SendRow(1, "ann", ("r", "at", "r")), ["r"]), (SendRow(1, "ann", (1,)), []),
    (SendRow(1, "ann", ("ann",)), ["ann"]),
    (SayRow(1, "x", ("a", "<", "b"), "m"), ["a", "b"]), (SayRow(1, "x", (3,), "m"), []),
    (SayRow(1, "x", ("by",), "m"), ["by"]),
    (CallRow(1, "f", []), []), (CallRow(1, "f", [1, 2]), []), (CallRow(1, "f", ["b", 0, "a", "b"]), ["b", "a"]),
    (CallRow(1, "f", ["f"]), ["f"]),
    (IfRow(1, ("x",), [SetRow(2, "y", ("z",))], [SetRow(4, "y", ("w",))], 0, 0), ["x"]),
    (IfRow(1, ("r", "at", "x"), [], [], 1, 2), ["r", "x"]), (IfRow(1, (1,), [], [], 0, 0), []),
    (LoopRow(1, "x", 3, [SetRow(2, "y", ("z",))], 0, 0), ["x"]), (LoopRow(1, 9, 3, [], 0, 0), []),
]


class Classes(unittest.TestCase):
    def test_values_of_the_same_names(self):
        for made, values in MADE:
            with self.subTest(made=made.__name__):
                row = made(*values.values())
                for name, value in values.items():
                    self.assertEqual(getattr(row, name), value)
                named = made(**values)
                for name, value in values.items():
                    self.assertEqual(getattr(named, name), value)

    def test_the_base(self):
        self.assertEqual(Row(17).number, 17)
        self.assertIs(type(Row(17)), Row)

    def test_each_stands_under_row_and_none_under_another(self):
        self.assertEqual(len(CLASSES), 13)
        for one in CLASSES:
            self.assertTrue(issubclass(one, Row))
            self.assertIsNot(one, Row)
            for other in CLASSES:
                self.assertEqual(issubclass(one, other), one is other)

    def test_program(self):
        heads, deeds, main = [HandRow(1, "ann", 0)], [DeedRow(2, "f", [], [])], [LastRow(5)]
        program = Program(heads, deeds, main)
        self.assertEqual((program.heads, program.deeds, program.main), (heads, deeds, main))
        self.assertNotIsInstance(program, Row)
        empty = Program([], [], [])
        self.assertEqual((empty.heads, empty.deeds, empty.main), ([], [], []))

    def test_what_an_if_loop_and_deed_hold(self):
        one, other = LastRow(2), SetRow(4, "x", (1,))
        self.assertEqual(IfRow(1, ("x",), [one], [other], 0, 0).first, [one])
        self.assertEqual(IfRow(1, ("x",), [one], [other], 0, 0).other, [other])
        self.assertEqual(LoopRow(1, "x", 1, [one, other], 0, 0).body, [one, other])
        self.assertEqual(DeedRow(1, "f", [], [one, other]).body, [one, other])


class Shown(unittest.TestCase):
    def test_each_row(self):
        for row, text in SHOWN:
            with self.subTest(text=text):
                self.assertEqual(row.shown(), text)

    def test_the_first_row_alone(self):
        inside = [SetRow(2, "x", (1,)), LastRow(3)]
        self.assertEqual(IfRow(1, ("x",), inside, inside, 0, 0).shown(), "if x")
        self.assertEqual(LoopRow(1, "x", 3, inside, 0, 0).shown(), "loop x most 3")
        self.assertEqual(DeedRow(1, "f", ["p"], inside).shown(), "deed f p")

    def test_all_classes_are_asked(self):
        self.assertEqual({type(row) for row, text in SHOWN}, set(CLASSES))


class Reads(unittest.TestCase):
    def test_each_row(self):
        for row, names in READS:
            with self.subTest(row=row.shown()):
                self.assertEqual(row.reads(), names)

    def test_all_classes_are_asked(self):
        self.assertEqual({type(row) for row, names in READS}, set(CLASSES))


class Target(unittest.TestCase):
    def test_set_say_and_put(self):
        self.assertEqual(SetRow(1, "x", ("y",)).target(), "x")
        self.assertEqual(SayRow(1, "x", ("y",), "m").target(), "x")
        self.assertEqual(PutRow(1, "r", "a", ("y",)).target(), "r")

    def test_none_else(self):
        for made, values in MADE:
            if made not in (SetRow, SayRow, PutRow):
                with self.subTest(made=made.__name__):
                    self.assertIsNone(made(**values).target())


class Kept(unittest.TestCase):
    """Point 2."""

    def test_a_list_told_by_reads_is_the_askers_own(self):
        for row, names in READS:
            row.reads().append("zzz")
            row.reads().clear()
            self.assertEqual(row.reads(), names)

    def test_lists_handed_in_and_kept_are_two(self):
        row = LastRow(9)
        for make in [
            lambda xs: (CallRow(1, "f", xs), "things"), lambda xs: (IfRow(1, (1,), xs, [], 0, 0), "first"),
            lambda xs: (IfRow(1, (1,), [], xs, 0, 0), "other"), lambda xs: (LoopRow(1, 1, 1, xs, 0, 0), "body"),
            lambda xs: (DeedRow(1, "f", xs, []), "parts"), lambda xs: (DeedRow(1, "f", [], xs), "body"),
            lambda xs: (Program(xs, [], []), "heads"), lambda xs: (Program([], xs, []), "deeds"),
            lambda xs: (Program([], [], xs), "main"),
        ]:
            handed = [row, row]
            made, name = make(handed)
            self.assertEqual(getattr(made, name), [row, row])
            handed.append(row)
            self.assertEqual(getattr(made, name), [row, row])
            getattr(made, name).clear()
            self.assertEqual(handed, [row, row, row])

    def test_two_made_of_the_same_lists_share_none(self):
        rows = [LastRow(2)]
        one, other = LoopRow(1, 1, 1, rows, 0, 0), LoopRow(1, 1, 1, rows, 0, 0)
        one.body.append(LastRow(3))
        self.assertEqual(len(other.body), 1)

    def test_showing_changes_nothing(self):
        call = CallRow(1, "f", ["a", 1])
        call.shown()
        call.reads()
        self.assertEqual(call.things, ["a", 1])
        deed = DeedRow(1, "f", ["p"], [])
        deed.shown()
        self.assertEqual(deed.parts, ["p"])


if __name__ == "__main__":
    unittest.main()
