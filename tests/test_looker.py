"""Points 2, 3, 4, 25 and 26, and the interface of looker."""

import unittest

from hushrow.errors import Leak
from hushrow.links import links
from hushrow.looker import demands, let_by, unmet
from hushrow.ranks import fits, top
from hushrow.reach import chain, sources, table
from hushrow.reader import read
from hushrow.runner import run
from hushrow.writer import written
from samples import SPELLED, WHOLE, drawn

HEADS = ["hand ann open", "hand bob house", "hand cy closed", "given a open", "given b house", "given c closed",
         "own x", "own y", "let m open", "let n closed"]


def program_of(main, deeds=()):
    return read(HEADS + list(deeds) + ["main"] + list(main) + ["end"])


def leak_of(program, steps=False):
    try:
        let_by(program, steps)
    except Leak as leak:
        return leak
    return None


class Demands(unittest.TestCase):
    def test_sends_and_says(self):
        program = program_of(["send cy 1", "set x 1", "if x", "say x 1 by n", "else", "send bob 1", "end"],
                             ["deed f", "send ann 1", "say x 1 by m", "end"])
        self.assertEqual(demands(program), [(12, 0), (13, 0), (16, 2), (19, 2), (21, 1)])

    def test_none(self):
        self.assertEqual(demands(program_of(["set x 1"])), [])


class LetBy(unittest.TestCase):
    def check(self, main, row=None, rank=None, steps=False, deeds=()):
        program = program_of(main, deeds)
        with self.subTest(main=main, steps=steps):
            leak = leak_of(program, steps)
            if row is None:
                self.assertIsNone(leak)
                self.assertIs(let_by(program, steps), True)
                self.assertEqual(unmet(program, steps), [])
            else:
                self.assertEqual((leak.row, leak.rank), (row, rank))
                self.assertEqual(unmet(program, steps)[0], row)

    def test_numbers(self):
        for hand, bounds in (("ann", 0), ("bob", 1), ("cy", 2)):
            for rank, given in enumerate("abc"):
                if rank <= bounds:
                    self.check([f"send {hand} {given}"])
                else:
                    self.check([f"send {hand} {given}"], 12, rank)
            self.check([f"send {hand} 7"])

    def test_over_places(self):
        self.check(["set x c", "set y x + 1", "send ann y"], 14, 2)
        self.check(["set x c", "set y x + 1", "send cy y"])

    def test_the_top_of_the_set(self):
        self.check(["set x a + b", "send ann x"], 13, 1)
        self.check(["set x b", "set x c", "send ann x"], 14, 2)
        self.check(["set x b", "set x c", "send bob x"], 14, 2)

    def test_branches_and_loops(self):
        self.check(["if c", "send ann 1", "else", "end"], 13, 2)
        self.check(["if b", "else", "set x 1", "end", "send ann x"], 16, 1)
        self.check(["loop c most 3", "set x 1", "end", "send ann x"], 15, 2)
        self.check(["loop 3 most 3", "if c", "last", "else", "end", "set x x + 1", "end", "send ann x"], 19, 2)
        self.check(["if a", "send ann 1", "else", "send bob b", "end"])

    def test_deeds(self):
        self.check(["if c", "call f", "else", "end"], 12, 2, deeds=["deed f", "send ann 1", "end"])
        self.check(["call f c"], 12, 2, deeds=["deed f p", "send ann p", "end"])
        self.check(["call f a"], deeds=["deed f p", "send ann p", "end"])

    def test_says(self):
        self.check(["say x c by m", "send ann x"])
        self.check(["say x c by n", "send ann x"], 13, 2)
        self.check(["say x c by n", "send cy x"])
        self.check(["if c", "say x 1 by m", "else", "end"], 13, 2)
        self.check(["if c", "say x 1 by n", "else", "end"])

    def test_the_least_row(self):
        self.check(["send ann 1", "send bob c", "send ann c", "send ann b"], 13, 2)
        self.assertEqual(unmet(program_of(["send ann 1", "send bob c", "send ann c", "send cy c", "send ann b"])),
                         [13, 14, 16])

    def test_steps(self):
        for main, row in [
            (["if c", "set x 1", "else", "end", "send ann 1"], 16),
            (["loop c most 3", "set x 1", "end", "send ann 1"], 15),
            (["send ann 1", "if c", "set x 1", "else", "end"], 12),
            (["if c", "set x 1", "else", "end", "say x 1 by m"], 16),
            (["loop 2 most 3", "if c idle 1 2", "last", "else", "end", "end", "send ann 1"], 18),
        ]:
            self.check(main)
            self.check(main, row, 2, steps=True)
        for main in [
            ["if c", "set x 1", "else", "set y 1", "end", "send ann 1"],
            ["if c idle 0 1", "set x 1", "else", "end", "send ann 1"],
            ["if a", "set x 1", "else", "end", "send ann 1"],
            ["if c", "set x 1", "else", "end", "send cy 1"],
            ["loop c most 3 idle 0 1", "set x 1", "end", "send ann 1"],
        ]:
            self.check(main)
            self.check(main, steps=True)

    def test_the_rank_in_the_table_with_which_it_was_asked(self):
        main = ["send ann b", "if c", "set x 1", "else", "end"]
        self.check(main, 12, 1)
        self.check(main, 12, 2, steps=True)

    def test_harmless_programs_that_are_refused_by_the_text(self):
        self.check(["set x c", "set x 0", "send ann x"], 14, 2)
        self.check(["if 0", "send ann c", "else", "end"], 13, 2)
        self.check(["send ann c - c"], 12, 2)
        self.check(["send ann x", "set x c"], 12, 2)
        self.check(["if c", "set x 1", "else", "set x 1", "end", "send ann x"], 17, 2)

    def test_steps_by_name_and_by_place(self):
        program = program_of(["if c", "set x 1", "else", "end", "send ann 1"])
        self.assertEqual(unmet(program, steps=True), unmet(program, True))
        with self.assertRaises(Leak):
            let_by(program, steps=True)
        self.assertEqual(unmet(program), [])
        self.assertIs(let_by(program), True)


class Chains(unittest.TestCase):
    def test_written_out(self):
        program = program_of(["set x c", "if x", "set y 1", "else", "end", "send ann y"])
        self.assertEqual(leak_of(program).chain, [
            ("c", "x", "value", 12), ("x", "row 13", "test", 13), ("row 13", "y", "under", 14),
            ("y", "row 17", "value", 17),
        ])

    def test_from_a_mark(self):
        program = program_of(["say x 1 by n", "send ann x"])
        self.assertEqual(leak_of(program).chain, [("n", "x", "value", 12), ("x", "row 13", "value", 13)])

    def test_by_the_clock(self):
        program = program_of(["if c", "set x 1", "else", "end", "send ann 1"])
        self.assertEqual(leak_of(program, True).chain, [
            ("c", "row 12", "test", 12), ("row 12", "the clock", "steps", 12), ("the clock", "row 16", "steps", 16),
        ])

    def test_of_drawn_programs(self):
        refused = 0
        for rows in [WHOLE, SPELLED] + [one.rows for one in drawn(150)]:
            program = read(rows)
            for steps in (False, True):
                bits, found, leak = table(program, steps), links(program, steps), leak_of(program, steps)
                wanted = [row for row, rank in demands(program) if not fits(bits[f"row {row}"], rank)]
                self.assertEqual(unmet(program, steps), wanted)
                self.assertEqual(leak is None, wanted == [])
                if leak is None:
                    continue
                refused += 1
                place = f"row {wanted[0]}"
                self.assertEqual((leak.row, leak.rank), (wanted[0], top(bits[place])))
                self.assertIn((leak.chain[0][0], leak.rank), sources(program))
                self.assertEqual(leak.chain[-1][1], place)
                self.assertEqual([link[0] for link in leak.chain[1:]], [link[1] for link in leak.chain[:-1]])
                self.assertTrue(all(link in found for link in leak.chain))
                self.assertEqual(len(leak.chain), len(chain(program, place, leak.rank, steps)))
        self.assertGreater(refused, 100)


class Promise(unittest.TestCase):
    """Point 3: what a rank sees of two runs whose gifts are alike for it."""

    def seen(self, drawing, book, rank):
        ranks = {**drawing.hands, **drawing.marks}
        told = sorted(book.letters + book.said)
        return [entry for entry in told if ranks[entry[2]] <= rank]

    def check(self, drawing, program, gifts, rank, by_steps):
        others = drawing.gifts_alike(gifts, rank)
        one = self.seen(drawing, run(program, gifts), rank)
        other = self.seen(drawing, run(program, others), rank)
        for mine, yours in zip(one, other):
            self.assertEqual(mine[1:3], yours[1:3])
            if by_steps:
                self.assertEqual(mine[0], yours[0])
            if mine[3] != yours[3]:
                self.assertIn(mine[2], drawing.marks)
                return
        self.assertEqual(len(one), len(other))

    def test_drawn_programs_that_are_let_by(self):
        counts = [0, 0]
        for drawing in drawn(250, 2000):
            program = read(drawing.rows)
            if unmet(program) == []:
                by_steps = unmet(program, True) == []
                counts[by_steps] += 1
                for count in range(3):
                    gifts = drawing.gifts()
                    for rank in (0, 1, 2):
                        self.check(drawing, program, gifts, rank, by_steps)
        self.assertGreater(min(counts), 5)

    def test_one_written_out(self):
        program = program_of(["if c idle 0 3", "set x 7", "set x x + c", "send cy x", "else", "end", "send ann a",
                              "say y c rest 2 by m", "send bob y", "send ann 1"])
        self.assertIs(let_by(program, True), True)
        gifts = [{"a": 5, "b": 1, "c": c} for c in (0, 2, 3)]
        books = [run(program, one) for one in gifts]
        self.assertEqual([(book.letters[-3:], book.said) for book in books[:1]],
                         [(books[1].letters[-3:], books[1].said)])
        self.assertEqual(books[0].letters[-3], books[2].letters[-3])
        self.assertNotEqual(books[0].said, books[2].said)


class Kept(unittest.TestCase):
    """Point 2."""

    def test_what_is_told_is_the_askers_own(self):
        program = program_of(["set x c", "send ann x", "send ann 1"])
        demands(program).clear()
        unmet(program).clear()
        leak_of(program).chain.clear()
        self.assertEqual(demands(program), [(13, 0), (14, 0)])
        self.assertEqual(unmet(program), [13])
        self.assertEqual(len(leak_of(program).chain), 2)
        self.assertEqual(written(program), HEADS + ["main", "set x c", "send ann x", "send ann 1", "end"])


if __name__ == "__main__":
    unittest.main()
