"""Points 2, 3, 27 and 28, and the interface of evening."""

import unittest

from hushrow.costs import balanced, exacts, most, mosts
from hushrow.evening import evened, uneven
from hushrow.looker import let_by, unmet
from hushrow.ranks import fits
from hushrow.reach import table
from hushrow.reader import read
from hushrow.rows import IfRow, LoopRow, Program
from hushrow.runner import run
from hushrow.writer import written
from samples import SPELLED, WHOLE, drawn, rows_of

HEADS = ["hand ann open", "given a open", "given b house", "given c closed", "own x"]


class Evened(unittest.TestCase):
    def check(self, main, wanted, floor=0, deeds=(), deeds_wanted=None):
        rows = HEADS + list(deeds) + ["main"] + main + ["end"]
        program = read(rows)
        told = evened(program, floor)
        with self.subTest(main=main, floor=floor):
            self.assertIs(type(told), Program)
            deeds_wanted = list(deeds) if deeds_wanted is None else deeds_wanted
            self.assertEqual(written(told), HEADS + deeds_wanted + ["main"] + wanted + ["end"])
            self.assertEqual(written(program), rows)
            changed = [at for at, (one, other) in enumerate(zip(rows, written(told)), 1) if one != other]
            self.assertEqual(uneven(program, floor), changed)
            self.assertEqual(uneven(told, floor), [])
            self.assertEqual((most(told), mosts(told)), (most(program), mosts(program)))

    def test_ifs(self):
        sides = ["set x 1", "set x 2", "else", "set x 3", "end"]
        for idle, wanted in [
            ("", " idle 0 1"), (" idle 0 1", " idle 0 1"), (" idle 1 0", " idle 1 2"), (" idle 0 5", " idle 4 5"),
            (" idle 5 0", " idle 5 6"), (" idle 3 4", " idle 3 4"), (" idle 3 5", " idle 4 5"),
        ]:
            self.check(["if c" + idle] + sides, ["if c" + wanted] + sides)

    def test_ifs_whose_other_side_is_longer(self):
        sides = ["else", "set x 3", "set x 4", "end"]
        self.check(["if c"] + sides, ["if c idle 2 0"] + sides)
        self.check(["if c idle 2 0"] + sides, ["if c idle 2 0"] + sides)
        self.check(["if c idle 3 0"] + sides, ["if c idle 3 1"] + sides)

    def test_ifs_that_are_balanced(self):
        for rows in (["if c", "else", "end"], ["if c", "set x 1", "else", "set x 2", "end"],
                     ["if c idle 7 7", "else", "end"]):
            self.check(rows, rows)

    def test_loops(self):
        for idle, wanted in [
            ("", " idle 0 2"), (" idle 0 2", " idle 0 2"), (" idle 1 0", " idle 1 3"), (" idle 0 5", " idle 3 5"),
            (" idle 4 1", " idle 4 6"), (" idle 3 5", " idle 3 5"), (" idle 0 1", " idle 0 2"),
        ]:
            body = ["set x 1", "last", "end"]
            self.check(["loop c most 9" + idle] + body, ["loop c most 9" + wanted] + body)
        self.check(["loop c most 9", "end"], ["loop c most 9", "end"])

    def test_the_floor(self):
        main = ["if a", "set x 1", "else", "end", "if b", "set x 1", "else", "end", "loop c most 2", "set x 1", "end"]
        open_too = "if a", "if b idle 0 1", "loop c most 2 idle 0 1"
        self.check(main, [open_too[0]] + main[1:4] + [open_too[1]] + main[5:8] + [open_too[2]] + main[9:])
        self.check(main, main[:8] + [open_too[2]] + main[9:], floor=1)
        self.check(main, main, floor=2)

    def test_sets_by_way_of_places(self):
        main = ["if x", "set x 1", "else", "end", "set x c"]
        self.check(main, ["if x idle 0 1"] + main[1:])
        self.check(main, main, floor=2)

    def test_within_one_another(self):
        main = ["if c", "loop a most 3", "set x 1", "end", "else", "if 1", "set x 1", "set x 2", "else", "end", "end"]
        wanted = ["if c idle 0 1", "loop a most 3 idle 0 1", "set x 1", "end", "else", "if 1 idle 0 2", "set x 1",
                  "set x 2", "else", "end", "end"]
        self.check(main, wanted)

    def test_an_inner_one_alone(self):
        main = ["if a", "if c", "set x 1", "else", "end", "else", "end"]
        self.check(main, ["if a", "if c idle 0 1"] + main[2:])

    def test_deeds(self):
        deeds = ["deed f p", "if p", "set x 1", "else", "end", "end"]
        evener = ["deed f p", "if p idle 0 1", "set x 1", "else", "end", "end"]
        self.check(["call f a"], ["call f a"], deeds=deeds)
        self.check(["call f c"], ["call f c"], deeds=deeds, deeds_wanted=evener)
        self.check(["call f c"], ["call f c"], deeds=deeds, floor=2)
        main = ["if c", "call f 1", "else", "end"]
        self.check(main, ["if c idle 0 3", "call f 1", "else", "end"], deeds=deeds, deeds_wanted=evener)

    def test_a_loop_by_its_last(self):
        main = ["loop 5 most 5", "if c", "last", "else", "end", "end"]
        self.check(main, ["loop 5 most 5 idle 0 2", "if c idle 0 1", "last", "else", "end", "end"])

    def test_the_floor_is_open_where_none_is_told(self):
        rows = HEADS + ["main", "if b", "set x 1", "else", "end", "end"]
        self.assertEqual(written(evened(read(rows))), written(evened(read(rows), 0)))
        self.assertEqual(written(evened(read(rows), floor=1)), rows)
        self.assertEqual((uneven(read(rows)), uneven(read(rows), 0), uneven(read(rows), floor=1)), ([7], [7], []))


class Uneven(unittest.TestCase):
    def test_above_the_floor_and_not_balanced(self):
        for rows in [WHOLE, SPELLED] + [one.rows for one in drawn(80)]:
            program = read(rows)
            bits, known = table(program), exacts(program)
            for floor in (0, 1, 2):
                wanted = sorted(
                    row.number for row in rows_of(program) if isinstance(row, (IfRow, LoopRow))
                    and not fits(bits[f"row {row.number}"], floor) and not balanced(row, known)
                )
                self.assertEqual(uneven(program, floor), wanted)


class Promises(unittest.TestCase):
    """Point 28."""

    def test_drawn_programs(self):
        let_by_too = 0
        for drawing in drawn(150, 4000):
            program = read(drawing.rows)
            for floor in (0, 1, 2):
                told = evened(program, floor)
                self.assertEqual(most(told), most(program))
                self.assertEqual(uneven(told, floor), [])
                self.assertEqual(written(evened(told, floor)), written(told))
                self.assertEqual([row.number for row in rows_of(told)], [row.number for row in rows_of(program)])
                self.compare(program, told, drawing.gifts())
            if unmet(program) == []:
                let_by_too += unmet(program, True) != []
                self.assertIs(let_by(evened(program), True), True)
        self.assertGreater(let_by_too, 5)

    def compare(self, program, told, gifts):
        before, behind = run(program, gifts), run(told, gifts)
        self.assertEqual(behind.ends, before.ends)
        for mine, yours in ((before.letters, behind.letters), (before.said, behind.said)):
            self.assertEqual([entry[1:] for entry in mine], [entry[1:] for entry in yours])
            for one, other in zip(mine, yours):
                self.assertLessEqual(one[0], other[0])
        self.assertLessEqual(before.steps, behind.steps)
        self.assertLessEqual(behind.steps, most(program))

    def test_steps_tell_nothing_any_more(self):
        rows = HEADS + ["main", "loop c most 4", "if x < 2", "set x x + c", "else", "last", "end", "end",
                        "send ann 5", "end"]
        program = read(rows)
        told = evened(program)
        before = {run(program, {"a": 0, "b": 0, "c": c}).letters[0] for c in range(6)}
        behind = {run(told, {"a": 0, "b": 0, "c": c}).letters[0] for c in range(6)}
        self.assertGreater(len(before), 1)
        self.assertEqual(len(behind), 1)


class Kept(unittest.TestCase):
    """Point 2: new in all its lists and rows."""

    def lists_of(self, program):
        found = [program.heads, program.deeds, program.main]
        for row in rows_of(program):
            found += [value for value in vars(row).values() if isinstance(value, list)]
        return found

    def test_no_list_or_row_is_shared(self):
        for rows in [WHOLE, SPELLED] + [one.rows for one in drawn(20)]:
            program = read(rows)
            for floor in (0, 1, 2):
                told = evened(program, floor)
                self.assertEqual({id(row) for row in rows_of(program)} & {id(row) for row in rows_of(told)}, set())
                mine, yours = self.lists_of(program), self.lists_of(told)
                self.assertEqual(len(mine), len(yours))
                self.assertEqual({id(part) for part in mine} & {id(part) for part in yours}, set())
                for row in rows_of(told):
                    row.number = 0
                for part in yours:
                    part.clear()
                self.assertEqual(written(program), rows)

    def test_the_kinds_of_rows_stay(self):
        program = read(WHOLE)
        told = evened(program)
        self.assertEqual([type(row) for row in rows_of(program)], [type(row) for row in rows_of(told)])

    def test_uneven_is_the_askers_own(self):
        program = read(WHOLE)
        first = uneven(program)
        self.assertNotEqual(first, [])
        uneven(program).clear()
        self.assertEqual(uneven(program), first)


if __name__ == "__main__":
    unittest.main()
