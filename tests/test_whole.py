"""Points 1 to 4, 24 and 28 over the whole program: from rows to what the desk answers."""

import unittest

from hushrow.costs import most
from hushrow.desk import Desk
from hushrow.errors import Leak
from hushrow.evening import evened
from hushrow.looker import let_by, unmet
from hushrow.pairs import seen, walk
from hushrow.ranks import word_of
from hushrow.reach import reached
from hushrow.reader import read
from hushrow.runner import run
from hushrow.writer import written
from samples import SPELLED, WHOLE, drawn


def desk_with(rows, name="p"):
    desk = Desk()
    for row in rows:
        desk.say(f"add {name} {row}")
    desk.say(f"read {name}")
    return desk


def give(desk, name, gifts):
    for key, gift in gifts.items():
        if isinstance(gift, list):
            desk.say(" ".join(["list", name, key] + [str(number) for number in gift]))
        else:
            desk.say(f"give {name} {key} {gift}")


class Asked(unittest.TestCase):
    """What the desk answers is what the stages tell."""

    def test_drawn_programs(self):
        for drawing in drawn(60, 8000):
            program, desk = read(drawing.rows), desk_with(drawing.rows)
            self.assertEqual(desk.say("rows p"), str(len(drawing.rows)))
            self.looks(program, desk)
            one = drawing.gifts()
            give(desk, "g", one)
            self.runs(program, desk, one)
            for rank in (0, 1, 2):
                other = drawing.gifts_alike(one, rank)
                give(desk, "h", other)
                parted = walk(program, rank, one, other)[1]
                self.assertEqual(desk.say(f"part p {word_of(rank)} g h"),
                                 "alike" if parted is None else f"row {parted[0]}")

    def looks(self, program, desk):
        for steps, line in ((False, "look p"), (True, "look p steps")):
            try:
                let_by(program, steps)
                answer = "let by"
            except Leak as leak:
                along = [leak.chain[0][0]] + [link[1] for link in leak.chain]
                answer = f"row {leak.row} {word_of(leak.rank)}: " + " > ".join(along)
            self.assertEqual(desk.say(line), answer)

    def runs(self, program, desk, gifts):
        book = run(program, gifts)
        told = [f"{step} {hand} {number}" for step, row, hand, number in book.letters]
        self.assertEqual(desk.say("run p g"), "; ".join(told + [f"end {book.steps}"]))
        for name, end in book.ends.items():
            answer = " ".join(str(number) for number in end) if isinstance(end, list) else str(end)
            self.assertEqual(desk.say(f"value p g {name}"), answer)

    def test_rows_of_the_language_s_words(self):
        for rows in (WHOLE, SPELLED):
            desk = desk_with(rows)
            self.assertEqual([desk.say(f"row p {at}") for at in range(1, len(rows) + 2)], rows + ["none"])


class Promise(unittest.TestCase):
    """Points 3 and 28: evened out above open, what is let by tells nothing by steps either."""

    def test_letters_come_at_the_same_steps(self):
        checked = 0
        for drawing in drawn(200, 9000):
            program = read(drawing.rows)
            if unmet(program) != []:
                continue
            even = evened(program)
            self.assertIs(let_by(even, True), True)
            one = drawing.gifts()
            for rank in (0, 1):
                other = drawing.gifts_alike(one, rank)
                pairs, parted = walk(even, rank, one, other)
                books = run(even, one), run(even, other)
                self.assertLessEqual(max(book.steps for book in books), most(program))
                if parted is None:
                    checked += one != other
                    self.assertEqual(seen(even, books[0], rank), seen(even, books[1], rank))
        self.assertGreater(checked, 50)

    def test_by_the_desk(self):
        desk = desk_with(["hand ann open", "given c closed", "own x", "main", "loop c most 4", "set x x + c", "end",
                          "send ann 1", "end"])
        desk.say("give g c 0")
        desk.say("give h c 3")
        self.assertEqual(desk.say("look p"), "let by")
        self.assertEqual(desk.say("look p steps"), "row 8 closed: c > row 5 > the clock > row 8")
        self.assertEqual((desk.say("run p g"), desk.say("run p h")), ("2 ann 1; end 2", "5 ann 1; end 5"))
        desk.say("even p q open")
        self.assertEqual(desk.say("look q steps"), "let by")
        self.assertEqual((desk.say("run q g"), desk.say("run q h")), ("6 ann 1; end 6", "6 ann 1; end 6"))
        self.assertEqual((desk.say("value q g x"), desk.say("value q h x")), ("0", "9"))
        self.assertEqual(desk.say("row q 5"), "loop c most 4 idle 0 1")
        self.assertEqual(desk.say("part q open g h"), "alike")

    def test_what_is_refused_has_a_chain_by_rows_of_the_text(self):
        for drawing in drawn(100, 9500):
            for steps in (False, True):
                try:
                    let_by(read(drawing.rows), steps)
                except Leak as leak:
                    ranks = {**drawing.numbers, **drawing.marks}
                    ranks.update({name: pair[0] for name, pair in drawing.lists.items()})
                    self.assertEqual(ranks[leak.chain[0][0]], leak.rank)
                    self.assertEqual(leak.chain[-1][1], f"row {leak.row}")
                    self.assertTrue(all(1 <= link[3] <= len(drawing.rows) for link in leak.chain))
                    self.assertIn(drawing.rows[leak.row - 1].split(" ")[0], ("send", "say"))

    def test_a_harmless_program_that_is_refused(self):
        desk = desk_with(["hand ann open", "given c closed", "own x", "main", "set x c", "set x 0", "send ann x",
                          "end"])
        self.assertEqual(desk.say("look p"), "row 7 closed: c > x > row 7")
        self.assertEqual(desk.say("try p c open"), "open")


class Owner(unittest.TestCase):
    """Points 1 and 24: what the owner lets be said, and what nothing unlike reaches."""

    ROWS = ["hand ann open", "given c closed", "own x", "own y", "own z", "let m open", "main", "say x c over 10 by m",
            "set y x + 1", "set z 5", "send ann y", "end"]

    def test_said_at_a_told_row(self):
        desk = desk_with(self.ROWS)
        self.assertEqual(desk.say("look p steps"), "let by")
        for name, number in (("g", 12), ("h", 19), ("i", 20)):
            desk.say(f"give {name} c {number}")
        self.assertEqual(desk.say("part p open g h"), "alike")
        self.assertEqual(desk.say("part p open g i"), "row 8")
        self.assertEqual(desk.say("run p g"), desk.say("run p h"))
        self.assertEqual([desk.say(f"value p {name} z") for name in "ghi"], ["5", "5", "5"])

    def test_what_the_mark_reaches(self):
        self.assertEqual(reached(read(self.ROWS), "m"), ["m", "row 11", "x", "y"])
        self.assertEqual(reached(read(self.ROWS), "c"), ["c"])


class Again(unittest.TestCase):
    """Point 2: nothing is kept from one asking to the next."""

    def test_the_same_answers_again(self):
        lines = ["rows p", "look p", "look p steps", "run p g", "value p g x", "part p open g g", "try p a closed",
                 "even p q open", "look q steps", "run q g"]
        for drawing in drawn(10, 50):
            desk, gifts = desk_with(drawing.rows), drawing.gifts()
            give(desk, "g", gifts)
            first = [desk.say(line) for line in lines]
            self.assertEqual([desk.say(line) for line in reversed(lines)], first[::-1])
            self.assertEqual(written(read(drawing.rows)), drawing.rows)


if __name__ == "__main__":
    unittest.main()
