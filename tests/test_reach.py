"""Points 2, 20, 23 and 24, and the interface of reach."""

import unittest

from hushrow.links import links
from hushrow.places import places, row_place, under
from hushrow.ranks import holds
from hushrow.reach import chain, reached, sources, table
from hushrow.reader import read
from hushrow.rows import OwnRow, SendRow
from hushrow.runner import run
from hushrow.writer import written
from samples import SPELLED, WHOLE, drawn, rows_of

HEADS = ["hand ann open", "given g open", "let m house", "given h closed", "own x", "own y", "own z", "let n closed",
         "given l house 2"]


def program_of(main, deeds=()):
    return read(HEADS + list(deeds) + ["main"] + list(main) + ["end"])


def closed_over(program, steps):
    """From each place, how few links it takes to each place that it reaches, by trying links until nothing changes."""
    far = {place: {place: 0} for place in places(program)}
    found, changed = links(program, steps), True
    while changed:
        changed = False
        for one, other, kind, row in found:
            for place in far:
                if one in far[place] and far[place].get(other, 10 ** 6) > far[place][one] + 1:
                    far[place][other] = far[place][one] + 1
                    changed = True
    return far


class Sources(unittest.TestCase):
    def test_givens_and_marks_in_the_order_of_the_heads(self):
        self.assertEqual(sources(program_of([])), [("g", 0), ("m", 1), ("h", 2), ("n", 2), ("l", 1)])
        self.assertEqual(sources(read(["hand ann closed", "own x", "main", "end"])), [])


class Reached(unittest.TestCase):
    def test_a_source_reaches_itself(self):
        for name in ("g", "m", "h", "n", "l"):
            self.assertEqual(reached(program_of([]), name), [name])

    def test_by_values_tests_and_rows_that_lie_under(self):
        program = program_of(["set x g", "if x", "set y 1", "else", "send ann 1", "end", "set z y"])
        self.assertEqual(reached(program, "g"), ["g", "row 12", "row 15", "x", "y", "z"])
        self.assertEqual(reached(program, "h"), ["h"])

    def test_sorted_as_texts(self):
        program = read(["hand ann open", "given g open", "main"] + ["send ann g"] * 20 + ["end"])
        self.assertEqual(reached(program, "g"), ["g"] + sorted(f"row {at}" for at in range(4, 24)))
        self.assertLess(reached(program, "g").index("row 10"), reached(program, "g").index("row 4"))

    def test_links_that_come_back(self):
        program = program_of(["set x g", "set y x", "set z y", "set x z"])
        self.assertEqual(reached(program, "g"), ["g", "x", "y", "z"])

    def test_the_order_of_the_rows_does_not_count(self):
        program = program_of(["set z y", "set y x", "set x g"])
        self.assertEqual(reached(program, "g"), ["g", "x", "y", "z"])

    def test_marks_and_what_is_said(self):
        program = program_of(["say x h by m", "set y x"])
        self.assertEqual(reached(program, "m"), ["m", "x", "y"])
        self.assertEqual(reached(program, "h"), ["h"])

    def test_steps(self):
        program = program_of(["if h", "set x 1", "else", "end", "send ann 1"])
        self.assertEqual(reached(program, "h"), ["h", "row 11", "x"])
        self.assertEqual(reached(program, "h", True), ["h", "row 11", "row 15", "the clock", "x"])
        self.assertEqual(reached(program, "h", steps=True), reached(program, "h", True))
        self.assertEqual(reached(program, "g", True), ["g"])

    def test_through_deeds(self):
        program = program_of(["if h", "call f g", "else", "end"], ["deed f p", "set x p", "send ann 1", "end"])
        self.assertEqual(reached(program, "g"), ["g", "p", "x"])
        self.assertEqual(reached(program, "h"), ["f", "h", "p", "row 12", "row 15", "x"])


class Tables(unittest.TestCase):
    def test_all_places(self):
        program = program_of(["set x g + h", "send ann x", "send ann 1"])
        self.assertEqual(table(program), {
            "g": 1, "m": 2, "h": 4, "n": 4, "l": 2, "x": 5, "y": 0, "z": 0, "row 12": 5, "row 13": 0, "the clock": 0,
        })

    def test_steps(self):
        program = program_of(["if l at 0", "set y 1", "else", "end", "send ann g"])
        self.assertEqual((table(program)["the clock"], table(program)["row 15"]), (0, 1))
        for bits in (table(program, True), table(program, steps=True)):
            self.assertEqual((bits["the clock"], bits["row 15"]), (2, 3))

    def test_no_sources(self):
        self.assertEqual(table(read(["own x", "main", "set x 1", "end"])), {"x": 0, "the clock": 0})

    def test_against_another_way(self):
        for rows in [WHOLE, SPELLED] + [one.rows for one in drawn(50)]:
            program = read(rows)
            for steps in (False, True):
                far, bits = closed_over(program, steps), {place: 0 for place in places(program)}
                for source, rank in sources(program):
                    self.assertEqual(reached(program, source, steps), sorted(far[source]))
                    for place in far[source]:
                        bits[place] |= 2 ** rank
                self.assertEqual(table(program, steps), bits)


class Chains(unittest.TestCase):
    def test_from_a_source_to_itself(self):
        program = program_of(["set x g"])
        for place, rank in sources(program):
            self.assertEqual(chain(program, place, rank), [])

    def test_none(self):
        program = program_of(["set x g", "if h", "set y 1", "else", "end", "send ann 1"])
        self.assertIsNone(chain(program, "x", 1))
        self.assertIsNone(chain(program, "x", 2))
        self.assertIsNone(chain(program, "z", 0))
        self.assertIsNone(chain(program, "g", 1))
        self.assertIsNone(chain(program, "the clock", 0))
        self.assertIsNone(chain(program, "row 16", 2))
        self.assertIsNotNone(chain(program, "row 16", 2, True))

    def test_the_links(self):
        program = program_of(["set x h", "if x", "set y 1", "else", "end", "send ann y"])
        self.assertEqual(chain(program, "row 16", 2), [
            ("h", "x", "value", 11), ("x", "row 12", "test", 12), ("row 12", "y", "under", 13),
            ("y", "row 16", "value", 16),
        ])

    def test_steps(self):
        program = program_of(["if h", "set x 1", "else", "end", "send ann 1"])
        wanted = [("h", "row 11", "test", 11), ("row 11", "the clock", "steps", 11),
                  ("the clock", "row 15", "steps", 15)]
        self.assertEqual(chain(program, "row 15", 2, True), wanted)
        self.assertEqual(chain(program, "row 15", 2, steps=True), wanted)

    def test_the_shortest_of_several(self):
        program = program_of(["set x g", "set y x", "set z y", "set z g", "send ann z"])
        self.assertEqual(chain(program, "row 15", 0), [("g", "z", "value", 14), ("z", "row 15", "value", 15)])

    def test_from_any_source_of_the_rank(self):
        program = program_of(["set x h", "set y x", "say z 1 by n", "set y z", "send ann y"])
        self.assertEqual(len(chain(program, "row 15", 2)), 3)
        program = program_of(["set x h", "set y x", "say y 1 by n", "send ann y"])
        self.assertEqual(chain(program, "row 14", 2), [("n", "y", "value", 13), ("y", "row 14", "value", 14)])

    def test_against_another_way(self):
        for one in drawn(40, 300):
            program = read(one.rows)
            for steps in (False, True):
                far, found, bits = closed_over(program, steps), links(program, steps), table(program, steps)
                for place in places(program):
                    for rank in (0, 1, 2):
                        told = chain(program, place, rank, steps)
                        starts = [source for source, its in sources(program) if its == rank and place in far[source]]
                        self.assertEqual(told is None, starts == [])
                        self.assertEqual(told is not None, holds(bits[place], rank))
                        if told is not None:
                            self.follow(told, starts, place, found)
                            self.assertEqual(len(told), min(far[start][place] for start in starts))

    def follow(self, told, starts, place, found):
        at = told[0][0] if told else place
        self.assertIn(at, starts)
        for link in told:
            self.assertIn(link, found)
            self.assertEqual(link[0], at)
            at = link[1]
        self.assertEqual(at, place)


class TwoRuns(unittest.TestCase):
    """Point 24."""

    def unlike(self, program, one, other, gifts, others):
        """All places that some unlike given or mark reaches."""
        names = [name for name in gifts if gifts[name] != others[name]]
        for name in dict.fromkeys(entry[2] for entry in one.said + other.said):
            if [x[3] for x in one.said if x[2] == name] != [x[3] for x in other.said if x[2] == name]:
                names.append(name)
        return {place for name in names for place in reached(program, name)}

    def test_what_nothing_unlike_reaches_stays(self):
        for drawing in drawn(120, 500):
            program = read(drawing.rows)
            lies = under(program)
            gifts = drawing.gifts()
            for others in [drawing.gifts_alike(gifts, rank) for rank in (0, 1)] + [drawing.gifts()]:
                one, other = run(program, gifts), run(program, others)
                touched = self.unlike(program, one, other, gifts, others)
                for head in program.heads:
                    if isinstance(head, OwnRow) and head.name not in touched:
                        self.assertEqual(one.ends[head.name], other.ends[head.name])
                first = [entry for entry in one.trace if lies[entry[0]] not in touched]
                second = [entry for entry in other.trace if lies[entry[0]] not in touched]
                self.assertEqual([entry[0] for entry in first], [entry[0] for entry in second])
                sends = {row.number for row in rows_of(program) if isinstance(row, SendRow)}
                for mine, yours in zip(first, second):
                    if mine[0] in sends and row_place(mine[0]) not in touched:
                        self.assertEqual(mine[2], yours[2])


class Kept(unittest.TestCase):
    """Point 2."""

    def test_what_is_told_is_the_askers_own(self):
        program = read(WHOLE)

        def all_told():
            return (sources(program), reached(program, "c", True), table(program), chain(program, "row 50", 2))

        first = all_told()
        for part in all_told():
            part.clear()
        self.assertEqual(all_told(), first)
        self.assertEqual(written(program), WHOLE)


if __name__ == "__main__":
    unittest.main()
