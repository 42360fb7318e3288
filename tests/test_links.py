"""Points 2 and 22, and the interface of links."""

import unittest

from hushrow.links import links
from hushrow.reader import read
from hushrow.writer import written
from samples import SPELLED, WHOLE, drawn

HEADS = ["hand ann open", "given g open", "given h closed", "given l house 2", "own x", "own y", "own r 2", "own s 2",
         "let m open"]
CLOCK = "the clock"


def rows_in(where, rows):
    """These rows in a program, with the number of the first of them and the place under which it lies."""
    if where == "main":
        return (HEADS + ["main"] + rows + ["end"], 11, None)
    if where == "deed":
        return (HEADS + ["deed d"] + rows + ["end", "main", "end"], 11, "d")
    if where == "if":
        return (HEADS + ["main", "if 1"] + rows + ["else", "end", "end"], 12, "row 11")
    if where == "else":
        return (HEADS + ["main", "if 1", "else"] + rows + ["end", "end"], 13, "row 11")
    return (HEADS + ["main", "loop 1 most 1"] + rows + ["end", "end"], 12, "row 11")


WHERE = ["main", "deed", "if", "else", "loop"]

# Of a row: what leads to what by its value or test; and what the place leads to under which it lies. K is its number.
ROWS = [
    ("set x 1", [], ["x"]),
    ("set x g", [("g", "x", "value")], ["x"]),
    ("set x g + h", [("g", "x", "value"), ("h", "x", "value")], ["x"]),
    ("set x g * g", [("g", "x", "value")], ["x"]),
    ("set x x", [], ["x"]),
    ("set x x + y", [("y", "x", "value")], ["x"]),
    ("set x l at h", [("l", "x", "value"), ("h", "x", "value")], ["x"]),
    ("set x r at 0", [("r", "x", "value")], ["x"]),
    ("put r 0 1", [], ["r"]),
    ("put r g 1", [("g", "r", "value")], ["r"]),
    ("put r 0 h", [("h", "r", "value")], ["r"]),
    ("put r g g", [("g", "r", "value")], ["r"]),
    ("put r g g + h", [("g", "r", "value"), ("h", "r", "value")], ["r"]),
    ("put r x s at y", [("x", "r", "value"), ("s", "r", "value"), ("y", "r", "value")], ["r"]),
    ("put r x r at x", [("x", "r", "value")], ["r"]),
    ("send ann 1", [], ["K"]),
    ("send ann x", [("x", "K", "value")], ["K"]),
    ("send ann l at x", [("l", "K", "value"), ("x", "K", "value")], ["K"]),
    ("send ann x = x", [("x", "K", "value")], ["K"]),
    ("say x h by m", [("m", "x", "value")], ["x", "K"]),
    ("say x x + h by m", [("m", "x", "value")], ["x", "K"]),
    ("say x 1 by m", [("m", "x", "value")], ["x", "K"]),
]

OPENING = [
    ("if 1", ["else", "end"], [], ["K"]),
    ("if x", ["else", "end"], [("x", "K", "test")], ["K"]),
    ("if l at x", ["else", "end"], [("l", "K", "test"), ("x", "K", "test")], ["K"]),
    ("if x < g idle 1 1", ["else", "end"], [("x", "K", "test"), ("g", "K", "test")], ["K"]),
    ("loop 1 most 3", ["end"], [], ["K"]),
    ("loop x most 3", ["end"], [("x", "K", "test")], ["K"]),
    ("loop h most 3 idle 1 1", ["end"], [("h", "K", "test")], ["K"]),
]


class EachRow(unittest.TestCase):
    def check(self, rows, straight, leads):
        for where in WHERE:
            texts, number, place = rows_in(where, rows)
            here = f"row {number}"
            wanted = [(one, here if other == "K" else other, kind, number) for one, other, kind in straight]
            if place is not None:
                wanted += [(place, here if other == "K" else other, "under", number) for other in leads]
            with self.subTest(rows=rows, where=where):
                found = links(read(texts))
                self.assertIs(type(found), list)
                self.assertEqual(sorted(found), sorted(wanted))

    def test_rows(self):
        for row, straight, leads in ROWS:
            self.check([row], straight, leads)

    def test_ifs_and_loops(self):
        for row, behind, straight, leads in OPENING:
            self.check([row] + behind, straight, leads)

    def test_calls(self):
        heads = HEADS + ["deed f", "end", "deed k p q", "end"]
        self.assertEqual(links(read(heads + ["main", "call f", "call k 1 2", "end"])), [])
        self.assertEqual(sorted(links(read(heads + ["main", "call k x x", "end"]))),
                         [("x", "p", "value", 15), ("x", "q", "value", 15)])
        self.assertEqual(sorted(links(read(heads + ["main", "call k h 1", "end"]))), [("h", "p", "value", 15)])
        found = links(read(heads + ["deed w u", "call k u 7", "call f", "end", "main", "if 1", "call k 1 g",
                                    "else", "loop 1 most 1", "call w g", "end", "end", "end"]))
        self.assertEqual(sorted(found), sorted([
            ("u", "p", "value", 15), ("w", "p", "under", 15), ("w", "q", "under", 15), ("w", "k", "under", 15),
            ("w", "f", "under", 16),
            ("g", "q", "value", 20), ("row 19", "p", "under", 20), ("row 19", "q", "under", 20),
            ("row 19", "k", "under", 20),
            ("row 19", "row 22", "under", 22),
            ("g", "u", "value", 23), ("row 22", "u", "under", 23), ("row 22", "w", "under", 23),
        ]))

    def test_parts(self):
        rows = HEADS + ["deed k p q", "set p p + q", "set q x", "put r p q", "send ann p", "say q 1 by m", "end",
                        "main", "end"]
        self.assertEqual(sorted(links(read(rows))), sorted([
            ("q", "p", "value", 11), ("k", "p", "under", 11), ("x", "q", "value", 12), ("k", "q", "under", 12),
            ("p", "r", "value", 13), ("q", "r", "value", 13), ("k", "r", "under", 13),
            ("p", "row 14", "value", 14), ("k", "row 14", "under", 14),
            ("m", "q", "value", 15), ("k", "q", "under", 15), ("k", "row 15", "under", 15),
        ]))


class Lasts(unittest.TestCase):
    def lasts(self, rows):
        texts = HEADS + ["main"] + rows + ["end"]
        return [link for link in links(read(texts)) if texts[link[3] - 1] == "last"]

    def test_straight_in_the_loop_there_is_none(self):
        self.assertEqual(self.lasts(["loop 1 most 1", "last", "end"]), [])

    def test_from_within_ifs(self):
        self.assertEqual(self.lasts(["loop 1 most 1", "if 1", "last", "else", "end", "end"]),
                         [("row 12", "row 11", "under", 13)])
        self.assertEqual(self.lasts(["loop 1 most 1", "if 1", "else", "if 1", "last", "else", "end", "end", "end"]),
                         [("row 14", "row 11", "under", 15)])

    def test_of_loops_within_one_another(self):
        self.assertEqual(sorted(self.lasts(["loop 1 most 1", "if 1", "loop 1 most 1", "if 1", "last", "else", "end",
                                            "end", "last", "else", "end", "end"])),
                         [("row 12", "row 11", "under", 19), ("row 14", "row 13", "under", 15)])

    def test_in_a_deed(self):
        texts = HEADS + ["deed f", "loop 1 most 1", "if 1", "last", "else", "end", "last", "end", "end", "main", "end"]
        self.assertEqual([link for link in links(read(texts)) if texts[link[3] - 1] == "last"],
                         [("row 12", "row 11", "under", 13)])


class Steps(unittest.TestCase):
    def by_steps(self, main, deeds=()):
        program = read(HEADS + list(deeds) + ["main"] + main + ["end"])
        plain, more = links(program), links(program, True)
        self.assertEqual(links(program, steps=True), more)
        self.assertEqual(links(program, False), plain)
        self.assertEqual([link for link in more if link[2] != "steps"], plain)
        self.assertEqual([link for link in plain if link[2] == "steps"], [])
        return sorted(link for link in more if link[2] == "steps")

    def test_sends_and_says(self):
        self.assertEqual(self.by_steps(["send ann 1", "say x 1 by m", "set x 1", "put r 0 1"]),
                         [(CLOCK, "row 11", "steps", 11), (CLOCK, "row 12", "steps", 12)])
        self.assertEqual(self.by_steps([], ["deed f", "send ann 1", "end"]), [(CLOCK, "row 11", "steps", 11)])

    def test_ifs_and_loops_that_are_not_balanced(self):
        uneven = [("row 11", CLOCK, "steps", 11)]
        for main, found in [
            (["if 1", "set x 1", "else", "end"], uneven), (["if 1", "else", "end"], []),
            (["if 1 idle 0 1", "set x 1", "else", "end"], []), (["if 1 idle 0 2", "set x 1", "else", "end"], uneven),
            (["loop 1 most 1", "end"], []), (["loop 1 most 1", "set x 1", "end"], uneven),
            (["loop 1 most 1 idle 0 1", "set x 1", "end"], []), (["loop 1 most 1 idle 1 0", "end"], uneven),
            (["loop g most 9 idle 3 3", "end"], []),
        ]:
            self.assertEqual(self.by_steps(main), found)

    def test_within_one_another(self):
        self.assertEqual(self.by_steps(["if 1", "if 1", "set x 1", "else", "end", "else", "end"]),
                         [("row 11", CLOCK, "steps", 11), ("row 12", CLOCK, "steps", 12)])
        self.assertEqual(self.by_steps(["if 1", "if 1", "else", "end", "else", "end"]),
                         [("row 11", CLOCK, "steps", 11)])

    def test_by_the_steps_of_deeds(self):
        self.assertEqual(self.by_steps(["if 1", "call f", "else", "set x 1", "set x 1", "end"],
                                       ["deed f", "set x 1", "end"]), [])
        self.assertEqual(self.by_steps(["if 1", "call f", "else", "set x 1", "end"], ["deed f", "set x 1", "end"]),
                         [("row 14", CLOCK, "steps", 14)])
        self.assertEqual(self.by_steps(["if 1", "call f", "else", "set x 1", "set x 1", "end"],
                                       ["deed f", "if 1", "set x 1", "else", "end", "end"]),
                         [("row 11", CLOCK, "steps", 11), ("row 17", CLOCK, "steps", 17)])


class All(unittest.TestCase):
    def test_unlike_places_and_each_once(self):
        for rows in [WHOLE, SPELLED] + [one.rows for one in drawn(80)]:
            for steps in (False, True):
                found = links(read(rows), steps)
                self.assertEqual(len(found), len(set(found)))
                for one, other, kind, row in found:
                    self.assertNotEqual(one, other)
                    self.assertIn(kind, ("value", "test", "under", "steps"))
                    self.assertNotIn(rows[row - 1], ("main", "else", "end"))
                    self.assertNotIn(None, (one, other))

    def test_what_is_told_is_the_askers_own(self):
        program = read(WHOLE)
        first = links(program, True)
        links(program, True).clear()
        self.assertEqual(links(program, True), first)
        self.assertEqual(written(program), WHOLE)


if __name__ == "__main__":
    unittest.main()
