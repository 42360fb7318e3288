"""Points 2, 20 and 21, and the interface of places."""

import unittest

from hushrow.places import places, row_place, under
from hushrow.reader import read
from hushrow.writer import written
from samples import SPELLED, WHOLE, drawn

ROWS = [
    "hand ann open", "given g open", "given l closed 2", "own x", "own r 2", "let m house",
    "deed f p q", "set x p", "send ann p", "end",
    "deed k", "end",
    "main", "set x 1", "put r 0 1", "call f 1 x", "send ann x", "say x 1 by m",
    "if x", "loop x most 2", "last", "if x", "send ann 1", "else", "set x 2", "end", "end", "set x 3",
    "else", "send ann 2", "end", "end",
]


class RowPlaces(unittest.TestCase):
    def test_texts(self):
        for number in (1, 2, 10, 99, 100, 200, 201):
            self.assertEqual(row_place(number), "row " + str(number))


class Places(unittest.TestCase):
    def test_every_kind(self):
        self.assertEqual(sorted(places(read(ROWS))), sorted([
            "g", "l", "x", "r", "m", "f", "p", "q", "k", "the clock",
            "row 9", "row 17", "row 18", "row 19", "row 20", "row 22", "row 23", "row 30",
        ]))

    def test_the_least(self):
        self.assertEqual(places(read(["main", "end"])), ["the clock"])
        self.assertEqual(places(read(["hand ann open", "main", "end"])), ["the clock"])

    def test_each_once(self):
        for one in drawn(60):
            found = places(read(one.rows))
            self.assertEqual(len(found), len(set(found)))

    def test_rows_by_the_text(self):
        for rows in [WHOLE, SPELLED] + [one.rows for one in drawn(60)]:
            found = [place for place in places(read(rows)) if place.startswith("row ")]
            wanted = [f"row {at}" for at, row in enumerate(rows, 1) if row.split(" ")[0] in ("if", "loop", "send", "say")]
            self.assertEqual(sorted(found), sorted(wanted))


class Under(unittest.TestCase):
    def test_within_one_another(self):
        self.assertEqual(under(read(ROWS)), {
            8: "f", 9: "f", 14: None, 15: None, 16: None, 17: None, 18: None, 19: None, 20: "row 19", 21: "row 20",
            22: "row 20", 23: "row 22", 25: "row 22", 28: "row 19", 30: "row 19",
        })

    def test_no_rows(self):
        self.assertEqual(under(read(["own x", "deed f p", "end", "main", "end"])), {})

    def test_ifs_and_loops_straight_in_a_deed(self):
        program = read(["own x", "deed f p", "if p", "set x 1", "else", "loop p most 2", "last", "end", "end", "end",
                        "main", "loop 1 most 1", "set x 1", "end", "end"])
        self.assertEqual(under(program), {3: "f", 4: "row 3", 6: "row 3", 7: "row 6", 12: None, 13: "row 12"})

    def test_by_the_text(self):
        for rows in [WHOLE, SPELLED] + [one.rows for one in drawn(60)]:
            wanted, opened = {}, []
            for at, words in enumerate([row.split(" ") for row in rows], 1):
                if words[0] == "end":
                    opened.pop()
                elif words[0] in ("deed", "main"):
                    opened.append(words[1] if words[0] == "deed" else None)
                elif opened and words[0] != "else":
                    wanted[at] = opened[-1]
                    if words[0] in ("if", "loop"):
                        opened.append(f"row {at}")
            self.assertEqual(under(read(rows)), wanted)


class Kept(unittest.TestCase):
    """Point 2."""

    def test_what_is_told_is_the_askers_own(self):
        program = read(ROWS)
        first = (places(program), under(program))
        places(program).clear()
        under(program).clear()
        self.assertEqual((places(program), under(program)), first)
        self.assertEqual(written(program), ROWS)


if __name__ == "__main__":
    unittest.main()
