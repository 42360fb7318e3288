"""Points 2, 7 and 9 to 14, and the interface of reader and writer."""

import unittest

from hushrow.errors import HushError, NoName, NoNest, NoRow, TooLong, TooMuch
from hushrow.reader import read
from hushrow.rows import (
    CallRow, DeedRow, GivenRow, HandRow, IfRow, LastRow, LetRow, LoopRow, OwnRow, Program, PutRow, Row, SayRow,
    SendRow, SetRow,
)
from hushrow.writer import written
from samples import SPELLED, WHOLE, drawn, rows_of

HEADS = ["hand ann open", "given g open", "given gl closed 3", "own x", "own r 3", "let m open", "let n open"]
# A row of each kind that may stand in a body, but for last.
BODY = ["set x 1", "put r 0 1", "send ann 1", "say x 1 by m", "call f", "if x", "loop x most 1"]


def refusal(rows):
    """The refusal of these rows, as a tuple of its class and its values; None where they are read."""
    try:
        read(rows)
    except HushError as refused:
        return (type(refused),) + tuple(vars(refused).values())
    return None


class Refusals(unittest.TestCase):
    def refused(self, rows, *told):
        with self.subTest(rows=rows[-12:]):
            self.assertEqual(refusal(rows), told or None)


class Trees(unittest.TestCase):
    def test_heads(self):
        program = read(["hand ann house", "given g open", "given h closed 20", "own x", "own r 1", "let m closed",
                        "main", "end"])
        self.assertIs(type(program), Program)
        self.assertEqual([type(head) for head in program.heads],
                         [HandRow, GivenRow, GivenRow, OwnRow, OwnRow, LetRow])
        self.assertEqual([vars(head) for head in program.heads], [
            {"number": 1, "name": "ann", "rank": 1}, {"number": 2, "name": "g", "rank": 0, "size": 0},
            {"number": 3, "name": "h", "rank": 2, "size": 20}, {"number": 4, "name": "x", "size": 0},
            {"number": 5, "name": "r", "size": 1}, {"number": 6, "name": "m", "rank": 2},
        ])
        self.assertEqual((program.deeds, program.main), ([], []))

    def test_each_row_of_a_body(self):
        rows = HEADS + ["deed f p q", "end", "main", "set x g + 1", "put r x gl at 2", "send ann 7", "say x g by m",
                        "call f 0 x", "loop 4 most 9", "last", "end", "if g idle 0 2", "else", "end", "end"]
        program = read(rows)
        kinds = [SetRow, PutRow, SendRow, SayRow, CallRow, LoopRow, IfRow]
        self.assertEqual([type(row) for row in program.main], kinds)
        values = [vars(row) for row in program.main]
        self.assertEqual(values[:5], [
            {"number": 11, "name": "x", "value": ("g", "+", 1)},
            {"number": 12, "name": "r", "place": "x", "value": ("gl", "at", 2)},
            {"number": 13, "name": "ann", "value": (7,)},
            {"number": 14, "name": "x", "value": ("g",), "mark": "m"},
            {"number": 15, "name": "f", "things": [0, "x"]},
        ])
        loop, branch = program.main[5:]
        self.assertEqual((loop.number, loop.thing, loop.most, loop.left, loop.right), (16, 4, 9, 0, 0))
        self.assertEqual([(type(row), row.number) for row in loop.body], [(LastRow, 17)])
        self.assertEqual((branch.number, branch.value, branch.left, branch.right), (19, ("g",), 0, 2))
        self.assertEqual((branch.first, branch.other), ([], []))
        deed = program.deeds[0]
        self.assertIs(type(deed), DeedRow)
        self.assertEqual((deed.number, deed.name, deed.parts, deed.body), (8, "f", ["p", "q"], []))

    def test_numbers_of_rows_within_one_another(self):
        program = read(["own x", "deed f", "set x 1", "end", "main", "if x", "set x 2", "loop 3 most 4", "set x 3",
                        "end", "set x 4", "else", "if x", "else", "set x 5", "end", "set x 6", "end", "set x 7", "end"])
        self.assertEqual([row.number for row in program.deeds[0].body], [3])
        self.assertEqual([row.number for row in program.main], [6, 19])
        self.assertEqual([row.number for row in program.main[0].first], [7, 8, 11])
        self.assertEqual([row.number for row in program.main[0].first[1].body], [9])
        self.assertEqual([row.number for row in program.main[0].other], [13, 17])
        self.assertEqual([row.number for row in program.main[0].other[0].first], [])
        self.assertEqual([row.number for row in program.main[0].other[0].other], [15])

    def test_the_least_program(self):
        program = read(["main", "end"])
        self.assertEqual((program.heads, program.deeds, program.main), ([], [], []))
        self.assertEqual(written(program), ["main", "end"])


class Written(unittest.TestCase):
    def test_the_very_rows(self):
        for rows in [WHOLE, SPELLED] + [one.rows for one in drawn(150)]:
            self.assertEqual(written(read(rows)), rows)

    def test_of_a_tree_made_by_hand(self):
        inner = LoopRow(4, 5, 6, [LastRow(5)], 0, 7)
        program = Program(
            [OwnRow(1, "x", 0)], [DeedRow(2, "f", ["p"], [])],
            [IfRow(3, ("x",), [inner], [SetRow(8, "x", (1,))], 2, 0), CallRow(10, "f", ["x"])],
        )
        self.assertEqual(written(program), [
            "own x", "deed f p", "end", "main", "if x idle 2 0", "loop 5 most 6 idle 0 7", "last", "end", "else",
            "set x 1", "end", "call f x", "end",
        ])

    def test_two_hundred_rows(self):
        rows = ["own x", "main"] + ["set x 1"] * 197 + ["end"]
        self.assertEqual(len(rows), 200)
        self.assertEqual(written(read(rows)), rows)

    def test_six_within_one_another(self):
        for opening, closing in (("if 1", ["else", "end"]), ("loop 1 most 1", ["end"])):
            rows = ["main"] + [opening] * 6 + closing * 6 + ["end"]
            self.assertEqual(written(read(rows)), rows)

    def test_eight_deeds(self):
        rows = [text for name in "abcdefgh" for text in (f"deed {name}", "end")] + ["main", "end"]
        self.assertEqual(written(read(rows)), rows)


class NoRows(Refusals):
    TEXTS = ["", " ", "x", "set x", "set  x 1", " set x 1", "set x 1 ", "set x 1\n", "end ", "\u00e4", "\x00", "#",
             "hand ann", "main main", "deed f p q r s t", "call f 1 2 3 4 5", "own r 0", "own r 21", "loop x most 0",
             "loop x most 101", "if x idle 0 0", "x" * 4000]

    def test_at_each_place_of_a_program(self):
        whole = ["own x", "deed f", "set x 1", "end", "main", "if x", "set x 2", "else", "loop x most 2", "last",
                 "end", "end", "end"]
        self.assertIsNone(refusal(whole))
        for at in range(len(whole) + 1):
            for text in self.TEXTS:
                self.refused(whole[:at] + [text] + whole[at:], NoRow, at + 1)

    def test_of_several_the_first(self):
        self.refused(["own x", "y", "z", "set x 1", "end"], NoRow, 2)


class NoNests(Refusals):
    def test_else(self):
        for rows in [
            ["else"], ["own x", "else"], ["deed f", "else"], ["main", "else"], ["main", "loop 1 most 1", "else"],
            ["main", "if 1", "else", "else"], ["main", "if 1", "loop 1 most 1", "else"],
            ["main", "if 1", "else", "end", "else"], ["deed f", "end", "else"], ["main", "end", "else"],
        ]:
            self.refused(rows, NoNest, len(rows))

    def test_end(self):
        for rows in [
            ["end"], ["own x", "end"], ["deed f", "end", "end"], ["main", "end", "end"], ["main", "if 1", "end"],
            ["deed f", "if 1", "end"], ["main", "loop 1 most 1", "if 1", "end"],
            ["main", "if 1", "else", "if 1", "end"],
        ]:
            self.refused(rows, NoNest, len(rows))

    def test_last(self):
        for rows in [
            ["last"], ["own x", "last"], ["main", "last"], ["deed f", "last"], ["main", "if 1", "last"],
            ["main", "if 1", "else", "last"], ["main", "loop 1 most 1", "end", "last"], ["main", "end", "last"],
            ["deed f", "loop 1 most 1", "end", "last"], ["deed f", "loop 1 most 1", "end", "end", "last"],
            ["deed f", "loop 1 most 1", "end", "end", "main", "last"],
        ]:
            self.refused(rows, NoNest, len(rows))
        for inside in [
            ["last"], ["if 1", "last", "else", "last", "end"], ["if 1", "if 1", "else", "last", "end", "else", "end"],
            ["loop 1 most 1", "end", "last"], ["last", "last"],
        ]:
            self.refused(["main", "loop 1 most 1"] + inside + ["end", "end"])

    def test_heads_behind_a_deed_or_main(self):
        for head in ["hand b open", "given b open", "given b open 2", "own b", "own b 2", "let b open"]:
            for rows in [["deed f"], ["deed f", "end"], ["main"], ["main", "end"], ["main", "if 1"],
                         ["deed f", "end", "main"], ["main", "loop 1 most 1"]]:
                self.refused(HEADS + rows + [head], NoNest, len(HEADS + rows) + 1)

    def test_rows_of_a_body_outside(self):
        for row in BODY:
            for rows in [[], ["deed f", "end"]]:
                self.refused(HEADS + rows + [row], NoNest, len(HEADS + rows) + 1)

    def test_a_deed_or_main_within_one_that_is_open(self):
        for row in ["deed k", "deed k p", "main"]:
            for rows in [["deed f"], ["main"], ["deed f", "if 1"], ["main", "loop 1 most 1"],
                         ["main", "if 1", "else"], ["deed f", "end", "deed g"]]:
                self.refused(rows + [row], NoNest, len(rows) + 1)

    def test_anything_behind_the_end_of_main(self):
        whole = HEADS + ["deed f", "end", "main", "end"]
        for row in BODY + ["last", "else", "end", "main", "deed k", "hand k open", "own k", "let k open"]:
            self.refused(whole + [row], NoNest, len(whole) + 1)
            self.refused(whole + [row, "no row"], NoNest, len(whole) + 1)

    def test_what_is_open_behind_the_last_row(self):
        for rows in [
            ["deed f"], ["deed f p", "set p 1"], ["main"], ["main", "if 1"], ["main", "if 1", "else"],
            ["main", "if 1", "else", "end"], ["main", "loop 1 most 1"], ["main", "loop 1 most 1", "end"],
            ["deed f", "end", "main"], ["deed f", "if 1", "else", "end"], HEADS + ["main", "set x 1"],
        ]:
            self.refused(rows, NoNest, len(rows) + 1)

    def test_where_main_lacks(self):
        self.refused([], NoNest, 1)
        self.refused(["own x"], NoNest, 2)
        self.refused(HEADS, NoNest, 8)
        self.refused(["deed f", "end"], NoNest, 3)

    def test_two_hundred_rows_and_something_open(self):
        self.refused(["own x", "main"] + ["set x 1"] * 198, NoNest, 201)
        self.refused([f"own {a}{b}" for a in "abcdefghij" for b in "abcdefghijklmnopqrst"], NoNest, 201)


class NoNames(Refusals):
    def test_two_alike(self):
        for row in ["hand g open", "given ann open", "given x open 3", "own m", "own r 3", "let gl open", "deed x",
                    "deed k g", "deed k a r"]:
            name = [word for word in row.split(" ")[1:] if word in ("g", "ann", "x", "m", "r", "gl")][0]
            self.refused(HEADS + [row], NoName, 8, name)
        self.refused(["deed f p", "end", "deed g p"], NoName, 3, "p")
        self.refused(["deed f p", "end", "deed p"], NoName, 3, "p")
        self.refused(["deed f p", "end", "deed g f"], NoName, 3, "f")
        self.refused(["deed f p f"], NoName, 1, "f")
        self.refused(["deed f p q p"], NoName, 1, "p")

    def test_each_use(self):
        for row, name in [
            ("set g 1", "g"), ("set r 1", "r"), ("set ann 1", "ann"), ("set m 1", "m"), ("set f 1", "f"),
            ("set p 1", "p"), ("set k 1", "k"), ("set x gl", "gl"), ("set x p", "p"), ("set x r + 1", "r"),
            ("set x 1 + m", "m"), ("set x g at 0", "g"), ("set x x at 0", "x"), ("set x k at 0", "k"),
            ("set x r at r", "r"), ("set x gl at gl", "gl"), ("put gl 0 1", "gl"), ("put x 0 1", "x"),
            ("put r r 1", "r"), ("put r p 1", "p"), ("put r 0 ann", "ann"), ("send x 1", "x"), ("send m 1", "m"),
            ("send ann r", "r"), ("say g 1 by m", "g"), ("say x r by m", "r"), ("say x 1 by ann", "ann"),
            ("say x 1 by x", "x"), ("say x k by j", "k"), ("call x", "x"), ("call k", "k"), ("call f", "f"),
            ("call f 1 2", "f"), ("call f r", "r"), ("call f p", "p"), ("if r", "r"), ("if k < j", "k"),
            ("if g < j", "j"), ("loop r most 1", "r"), ("loop f most 1", "f"), ("set k j + i", "k"),
            ("put k j i", "k"), ("put r j i", "j"), ("put r g i", "i"), ("send k j", "k"), ("say k j by i", "k"),
            ("say x g by i", "i"), ("call k j", "k"), ("call f j", "j"), ("call f j i", "f"),
        ]:
            rows = HEADS + ["deed f p", "end", "main", row]
            self.refused(rows, NoName, 11, name)
            self.refused(HEADS + ["deed f p", "end", "deed h q", row], NoName, 11, name)

    def test_parts_in_their_deed(self):
        rows = HEADS + ["deed f p", "set p p + g", "put r p p", "send ann p", "say p p by m", "if p", "else", "end",
                        "loop p most 2", "end", "end", "main", "call f x", "end"]
        self.refused(rows)

    def test_calls(self):
        self.refused(["deed f", "call f", "end"], NoName, 2, "f")
        self.refused(["deed f", "call g", "end", "deed g", "end", "main", "end"], NoName, 2, "g")
        self.refused(["deed g", "end", "deed f", "call g", "end", "main", "call f", "call g", "end"])
        self.refused(["deed f p", "if 1", "else", "call f 1"], NoName, 4, "f")

    def test_by_each_mark_one_row(self):
        self.refused(HEADS + ["main", "say x 1 by m", "say x 1 by n", "say x 1 by m"], NoName, 11, "m")
        self.refused(HEADS + ["deed f", "say x 1 by m", "end", "main", "say x 1 by m"], NoName, 12, "m")
        self.refused(HEADS + ["main", "if g", "say x 1 by m", "else", "say x 1 by m"], NoName, 12, "m")
        self.refused(HEADS + ["main", "say x 1 by m", "say x 1 by n", "end"])


class TooMany(Refusals):
    def test_row_201(self):
        rows = ["own x", "main"] + ["set x 1"] * 198
        for text in ["set x 1", "end", "no row", "", "own x", "set k 1", "main"]:
            self.refused(rows + [text], TooMuch, 201)
            self.refused(rows + [text, text], TooMuch, 201)

    def test_a_whole_program_and_more(self):
        self.refused(["own x", "main"] + ["set x 1"] * 197 + ["end", "end"], TooMuch, 201)
        self.refused(["own x", "main"] + ["set x 1"] * 196 + ["end", "end"], NoNest, 200)

    def test_a_seventh_if_or_loop(self):
        for one in ["if 1", "loop 1 most 1"]:
            for other in ["if 1", "loop 1 most 1"]:
                for base in ["main", "deed f"]:
                    self.refused([base] + [one] * 6 + [other], TooMuch, 8)
        self.refused(["main"] + ["if 1", "else"] * 6 + ["loop 1 most 1"], TooMuch, 14)
        self.refused(["main"] + ["loop 1 most 1"] * 6 + ["end", "loop 1 most 1"] + ["end"] * 7)

    def test_a_ninth_deed(self):
        rows = [text for name in "abcdefgh" for text in (f"deed {name}", "end")]
        self.refused(rows + ["deed i"], TooMuch, 17)
        self.refused(rows + ["deed i p", "end", "main", "end"], TooMuch, 17)
        self.refused(rows + ["main", "end"])


class SeveralFaults(Refusals):
    """Of several faults in one row the first by 12's order."""

    DEEDS = [text for name in "abcdefgh" for text in (f"deed {name}", "end")]

    def test_row_201_ahead_of_no_row(self):
        self.refused(["own x", "main"] + ["set x 1"] * 198 + ["no row"], TooMuch, 201)

    def test_no_row_ahead_of_no_nest(self):
        self.refused(["main", "end", "set x"], NoRow, 3)
        self.refused(["own r 0", "last 1"], NoRow, 1)

    def test_no_nest_ahead_of_no_name(self):
        self.refused(["set k 1"], NoNest, 1)
        self.refused(["own x", "main", "own x"], NoNest, 3)
        self.refused(["deed f", "deed f"], NoNest, 2)
        self.refused(["own x", "main", "end", "set k 1"], NoNest, 4)

    def test_no_nest_ahead_of_too_much(self):
        self.refused(self.DEEDS + ["main", "deed i"], NoNest, 18)
        self.refused(self.DEEDS[:-1] + ["deed i"], NoNest, 16)

    def test_no_name_ahead_of_too_much(self):
        self.refused(["main"] + ["if 1"] * 6 + ["if k"], NoName, 8, "k")
        self.refused(["main"] + ["if 1"] * 6 + ["loop k most 1"], NoName, 8, "k")
        self.refused(self.DEEDS + ["deed a"], NoName, 17, "a")
        self.refused(self.DEEDS + ["deed i p p"], NoName, 17, "p")

    def test_the_first_row_with_a_fault(self):
        self.refused(["own x", "own x", "no row", "end"], NoName, 2, "x")
        self.refused(["own x", "end", "own x"], NoNest, 2)
        self.refused(["main", "if 1", "no row"], NoRow, 3)

    def test_a_row_ahead_of_what_is_open(self):
        self.refused(["main", "set k 1"], NoName, 2, "k")

    def test_what_is_open_ahead_of_too_long(self):
        self.refused(["deed f", "if 1 idle 10000 0", "else", "end", "end"], NoNest, 6)
        self.refused(["main", "if 1 idle 10000 0", "else", "end"], NoNest, 5)


class TooLongs(Refusals):
    @staticmethod
    def lasting(steps):
        """Rows of so many most steps."""
        return [f"if 1 idle {steps - 1} 0", "else", "end"]

    def test_main(self):
        self.refused(["main"] + self.lasting(10000) + ["end"])
        self.refused(["main"] + self.lasting(10001) + ["end"], TooLong, 10001)
        self.refused(["main", "loop 1 most 99 idle 0 101", "end", "end"])
        self.refused(["main", "loop 1 most 100 idle 0 100", "end", "end"], TooLong, 10001)
        self.refused(["main"] + ["loop 0 most 100"] * 6 + ["last"] + ["end"] * 7, TooLong, 1010101010101)

    def test_a_deed(self):
        self.refused(["deed f"] + self.lasting(10000) + ["end", "main", "end"])
        self.refused(["deed f"] + self.lasting(10001) + ["end", "main", "end"], TooLong, 10001)

    def test_deeds_in_their_order_ahead_of_main(self):
        fine, long, longer = self.lasting(9), self.lasting(10002), self.lasting(10005)
        self.refused(["deed f"] + fine + ["end", "deed g"] + longer + ["end", "deed h"] + long
                     + ["end", "main", "end"], TooLong, 10005)
        self.refused(["deed z"] + long + ["end", "deed a"] + longer + ["end", "main"] + longer + ["end"],
                     TooLong, 10002)
        self.refused(["deed f"] + fine + ["end", "main"] + longer + ["end"], TooLong, 10005)

    def test_calls_count(self):
        self.refused(["deed f"] + self.lasting(9999) + ["end", "main", "call f", "end"])
        self.refused(["deed f"] + self.lasting(10000) + ["end", "main", "call f", "end"], TooLong, 10001)
        self.refused(["deed f"] + self.lasting(5000) + ["end", "deed g", "call f", "call f", "end", "main", "end"],
                     TooLong, 10002)


class Kept(unittest.TestCase):
    """Point 2."""

    def test_the_rows_handed_in_stay(self):
        rows = list(WHOLE)
        read(rows)
        self.assertEqual(rows, WHOLE)
        rows.append("no row")
        self.assertIsNotNone(refusal(rows))
        self.assertEqual(rows, WHOLE + ["no row"])

    def test_each_program_is_new(self):
        rows = list(WHOLE)
        one, other = read(rows), read(rows)
        rows.clear()
        self.assertEqual({id(row) for row in rows_of(one)} & {id(row) for row in rows_of(other)}, set())
        for row in rows_of(one):
            self.assertIsInstance(row, Row)
            for value in vars(row).values():
                if isinstance(value, list):
                    value.clear()
        for rows_told in (one.heads, one.deeds, one.main):
            rows_told.clear()
        self.assertEqual(written(other), WHOLE)
        self.assertEqual(written(read(WHOLE)), WHOLE)

    def test_each_writing_is_new(self):
        program = read(WHOLE)
        written(program).clear()
        written(program).append("end")
        self.assertEqual(written(program), WHOLE)


if __name__ == "__main__":
    unittest.main()
