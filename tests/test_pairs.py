"""Points 2 and 29 to 31, and the interface of pairs."""

import copy
import unittest

from hushrow.errors import NoGift, NotAlike
from hushrow.pairs import laid, seen, unlike_given, walk
from hushrow.places import under
from hushrow.ranks import fits
from hushrow.reach import table
from hushrow.reader import read
from hushrow.runner import run
from hushrow.writer import written
from samples import drawn

HEADS = ["hand ann open", "hand bob house", "hand cy closed", "given a open", "given b house", "given c closed",
         "given l closed 2", "own x", "own y", "let m open", "let h house", "let n closed"]
# The first row of main.
FIRST = 14


def program_of(main, deeds=()):
    return read(HEADS + list(deeds) + ["main"] + list(main) + ["end"])


def gifts(a=0, b=0, c=0, l=(0, 0)):
    return {"a": a, "b": b, "c": c, "l": list(l)}


class Unlike(unittest.TestCase):
    def test_the_first_of_this_rank_or_a_lower_one(self):
        program = program_of([])
        for rank, one, other, name in [
            (0, gifts(), gifts(), None), (2, gifts(), gifts(), None),
            (0, gifts(a=1), gifts(), "a"), (1, gifts(a=1), gifts(), "a"), (2, gifts(a=1), gifts(), "a"),
            (0, gifts(b=1), gifts(), None), (1, gifts(b=1), gifts(), "b"), (2, gifts(b=1), gifts(), "b"),
            (1, gifts(c=1), gifts(), None), (2, gifts(c=1), gifts(), "c"),
            (1, gifts(l=(0, 1)), gifts(), None), (2, gifts(l=(0, 1)), gifts(), "l"),
            (2, gifts(l=(1, 0)), gifts(l=(0, 1)), "l"), (2, gifts(l=(1, 0)), gifts(l=(1, 0)), None),
            (2, gifts(1, 1, 1, (1, 1)), gifts(), "a"), (2, gifts(0, 1, 1, (1, 1)), gifts(), "b"),
            (2, gifts(0, 0, 1, (1, 1)), gifts(), "c"),
        ]:
            self.assertEqual(unlike_given(program, rank, one, other), name)
            self.assertEqual(unlike_given(program, rank, other, one), name)

    def test_in_the_order_of_the_heads(self):
        program = read(["given z open", "given a open", "main", "end"])
        self.assertEqual(unlike_given(program, 0, {"a": 1, "z": 1}, {"a": 2, "z": 2}), "z")

    def test_other_names_are_not_looked_at(self):
        self.assertIsNone(unlike_given(program_of([]), 2, {**gifts(), "k": 1}, {**gifts(), "x": 2}))


class Refused(unittest.TestCase):
    def refusal(self, rank, one, other):
        try:
            walk(program_of(["send ann a"]), rank, one, other)
        except (NoGift, NotAlike) as refused:
            return (type(refused), refused.name)
        return None

    def test_the_order(self):
        bad, worse = {**gifts(), "c": -1}, {**gifts(), "b": None}
        self.assertEqual(self.refusal(0, bad, worse), (NoGift, "c"))
        self.assertEqual(self.refusal(0, worse, bad), (NoGift, "b"))
        self.assertEqual(self.refusal(0, gifts(), bad), (NoGift, "c"))
        self.assertEqual(self.refusal(0, gifts(a=1), bad), (NoGift, "c"))
        self.assertEqual(self.refusal(0, {}, {}), (NoGift, "a"))
        self.assertEqual(self.refusal(0, gifts(a=1), gifts()), (NotAlike, "a"))
        self.assertEqual(self.refusal(0, gifts(b=1), gifts()), None)
        self.assertEqual(self.refusal(1, gifts(b=1), gifts()), (NotAlike, "b"))
        self.assertEqual(self.refusal(2, gifts(0, 0, 1, (1, 1)), gifts()), (NotAlike, "c"))


class Walks(unittest.TestCase):
    def check(self, main, rank, one, other, pairs, parted=None, deeds=()):
        program = program_of(main, deeds)
        with self.subTest(main=main, rank=rank):
            told = walk(program, rank, one, other)
            self.assertIs(type(told), tuple)
            self.assertEqual(told, (pairs, parted))

    def test_all_common(self):
        self.check([], 0, gifts(), gifts(c=1), [])
        self.check(["set x c", "send ann a", "set y 1"], 0, gifts(), gifts(c=1),
                   [("both", 14), ("both", 15), ("both", 16)])

    def test_the_same_gifts(self):
        self.check(["if c", "set x 1", "else", "end"], 2, gifts(c=1), gifts(c=1), [("both", 14), ("both", 15)])
        self.check(["if c", "set x 1", "else", "end"], 0, gifts(c=1), gifts(c=1),
                   [("both", 14), ("one", 15), ("other", 15)])

    def test_rows_that_are_not_common(self):
        main = ["if c", "set x 1", "else", "set x 2", "set x 3", "end", "set y a"]
        self.check(main, 0, gifts(c=1), gifts(), [("both", 14), ("one", 15), ("other", 17), ("other", 18),
                                                  ("both", 20)])
        self.check(main, 1, gifts(), gifts(c=1), [("both", 14), ("one", 17), ("one", 18), ("other", 15),
                                                  ("both", 20)])

    def test_in_one_run_alone(self):
        main = ["if c", "set x 1", "set x 2", "else", "end", "set y a"]
        self.check(main, 0, gifts(c=1), gifts(), [("both", 14), ("one", 15), ("one", 16), ("both", 19)])
        self.check(main, 0, gifts(), gifts(c=1), [("both", 14), ("other", 15), ("other", 16), ("both", 19)])

    def test_behind_the_last_common_row(self):
        main = ["set y a", "if c", "set x 1", "else", "set x 2", "end"]
        self.check(main, 0, gifts(c=1), gifts(), [("both", 14), ("both", 15), ("one", 16), ("other", 18)])
        self.check(main[1:5] + ["end"], 0, gifts(c=1), gifts(), [("both", 14), ("one", 15), ("other", 17)])

    def test_loops(self):
        main = ["loop c most 3", "set x 1", "end", "loop a most 2", "set y 1", "end"]
        self.check(main, 0, gifts(a=2, c=1), gifts(a=2, c=2),
                   [("both", 14), ("one", 15), ("other", 15), ("other", 15), ("both", 17), ("both", 18), ("both", 18)])

    def test_common_for_one_rank_and_not_for_another(self):
        main = ["if b", "set x 1", "else", "end"]
        self.check(main, 0, gifts(b=1), gifts(b=1), [("both", 14), ("one", 15), ("other", 15)])
        self.check(main, 1, gifts(b=1), gifts(b=1), [("both", 14), ("both", 15)])
        self.check(main, 0, gifts(b=1), gifts(b=0), [("both", 14), ("one", 15)])

    def test_deeds(self):
        deeds = ["deed f", "set x 1", "end"]
        self.check(["call f", "set y 1"], 0, gifts(), gifts(c=1), [("both", 17), ("both", 14), ("both", 18)],
                   deeds=deeds)
        self.check(["call f", "if c", "call f", "else", "end"], 0, gifts(), gifts(c=1),
                   [("both", 17), ("one", 14), ("other", 14), ("both", 18), ("other", 19), ("other", 14)], deeds=deeds)

    def test_a_walk_that_parts(self):
        main = ["set y 1", "say x c by {}", "send ann x", "set y 2"]
        for mark, rank in [("m", 0), ("m", 1), ("h", 1)]:
            self.check([row.format(mark) for row in main], rank, gifts(c=5), gifts(c=7), [("both", 14), ("both", 15)],
                       (15, 5, 7))

    def test_none_at_a_mark_that_is_higher(self):
        main = ["set y 1", "say x c by {}", "send ann x", "set y 2"]
        for mark, rank in [("h", 0), ("n", 0), ("n", 1)]:
            self.check([row.format(mark) for row in main], rank, gifts(c=5), gifts(c=7),
                       [("both", 14), ("both", 15), ("both", 16), ("both", 17)])

    def test_none_where_the_same_is_said(self):
        self.check(["say x c rest 2 by m", "send ann x"], 0, gifts(c=5), gifts(c=7), [("both", 14), ("both", 15)])

    def test_none_at_a_say_that_is_not_common(self):
        main = ["if c", "say x c by m", "else", "end", "set y 1"]
        self.check(main, 0, gifts(c=5), gifts(c=7), [("both", 14), ("one", 15), ("other", 15), ("both", 18)])

    def test_none_at_a_send(self):
        self.check(["send ann c", "set y 1"], 0, gifts(c=5), gifts(c=7), [("both", 14), ("both", 15)])

    def test_parting_in_a_later_round(self):
        main = ["loop 3 most 3", "if c = x", "set y 1", "else", "end", "set x x + 1", "say y c over x by m", "end"]
        told = walk(program_of(main), 0, gifts(c=2), gifts(c=3))
        self.assertEqual(told[1], (20, 2, 3))
        told = walk(program_of(["set x 4"] + main), 0, gifts(c=5), gifts(c=6))
        self.assertEqual(told[1], (21, 0, 1))
        self.assertEqual([pair for pair in told[0] if pair[0] != "both"], [("one", 17)])
        self.assertEqual(told[0].count(("both", 21)), 2)
        self.assertEqual(told[0][-1], ("both", 21))

    def test_rows_ahead_of_the_one_at_which_it_parts(self):
        main = ["if c = 5", "set y 1", "else", "set y 2", "end", "say x c by m"]
        self.check(main, 0, gifts(c=5), gifts(c=7), [("both", 14), ("one", 15), ("other", 17), ("both", 19)],
                   (19, 5, 7))

    def test_drawn_programs(self):
        counts = [0, 0, 0]
        for drawing in drawn(150, 6000):
            program = read(drawing.rows)
            lies, bits, clock = under(program), table(program), table(program, True)["the clock"]
            for rank in (0, 1, 2):
                one = drawing.gifts()
                other = drawing.gifts_alike(one, rank)
                common = {row for row, place in lies.items() if place is None or fits(bits[place], rank)}
                pairs, parted = walk(program, rank, one, other)
                books = (run(program, one), run(program, other))
                self.along(pairs, parted, books, common)
                if fits(clock, rank):
                    counts[2] += 1
                    self.same_steps(pairs, books, common)
                if parted is None:
                    for name, end in books[0].ends.items():
                        if fits(bits[name], rank):
                            self.assertEqual(end, books[1].ends[name])
                counts[parted is None] += 1
        self.assertGreater(min(counts), 5)

    def along(self, pairs, parted, books, common):
        for word, book in zip(("one", "other"), books):
            rows = [row for kind, row in pairs if kind in (word, "both")]
            trace = [entry[0] for entry in book.trace]
            self.assertEqual(rows, trace if parted is None else trace[:len(rows)])
        for word, row in pairs:
            self.assertEqual(word == "both", row in common)
        for ahead, behind in zip(pairs, pairs[1:]):
            self.assertNotEqual((ahead[0], behind[0]), ("other", "one"))
        if parted is not None:
            self.assertEqual(pairs[-1], ("both", parted[0]))
            self.assertNotEqual(parted[1], parted[2])
            for number, book in zip(parted[1:], books):
                self.assertIn((parted[0], number), [(entry[1], entry[3]) for entry in book.said])

    def same_steps(self, pairs, books, common):
        count = len([pair for pair in pairs if pair[0] == "both"])
        steps = [[entry[:2] for entry in book.trace if entry[0] in common][:count] for book in books]
        self.assertEqual(steps[0], steps[1])


class Seen(unittest.TestCase):
    def test_hands_of_this_rank_or_a_lower_one(self):
        program = program_of(["send cy 1", "send ann 2", "send bob 3", "send ann 4"])
        book = run(program, gifts())
        letters = [(1, 14, "cy", 1), (2, 15, "ann", 2), (3, 16, "bob", 3), (4, 17, "ann", 4)]
        self.assertEqual(seen(program, book, 0), [letters[1], letters[3]])
        self.assertEqual(seen(program, book, 1), letters[1:])
        self.assertEqual(seen(program, book, 2), letters)
        seen(program, book, 2).clear()
        self.assertEqual(book.letters, letters)


class Laid(unittest.TestCase):
    def check(self, main, rank, one, other, told):
        program = program_of(main)
        self.assertEqual(laid(program, rank, one, other), told)
        if told is not None:
            self.assertEqual(laid(program, rank, other, one), (told[0], told[2], told[1]))

    def test_alike(self):
        self.check([], 2, gifts(), gifts(c=1), None)
        self.check(["send ann a", "send cy 1"], 2, gifts(), gifts(c=1), None)
        self.check(["send ann a", "send cy c"], 1, gifts(), gifts(c=1), None)

    def test_by_hand_and_number_alone(self):
        # Another step, and another row.
        self.check(["if c", "set x 1", "else", "end", "send ann 1"], 0, gifts(), gifts(c=1), None)
        self.check(["if c", "send ann 1", "else", "send ann 1", "end"], 0, gifts(), gifts(c=1), None)

    def test_unlike_at_the_first_and_later(self):
        self.check(["send ann c"], 0, gifts(), gifts(c=1), (0, (1, 14, "ann", 0), (1, 14, "ann", 1)))
        self.check(["send ann 7", "send cy c", "send ann 8", "send ann c"], 0, gifts(), gifts(c=1),
                   (2, (4, 17, "ann", 0), (4, 17, "ann", 1)))
        self.check(["send ann 7", "send cy c", "send ann 8", "send ann c"], 2, gifts(), gifts(c=1),
                   (1, (2, 15, "cy", 0), (2, 15, "cy", 1)))

    def test_unlike_hands(self):
        self.check(["if c", "send ann 1", "else", "send bob 1", "end"], 1, gifts(), gifts(c=1),
                   (0, (2, 17, "bob", 1), (2, 15, "ann", 1)))

    def test_one_run_with_fewer(self):
        self.check(["send ann 5", "loop c most 3", "send ann 5", "end"], 0, gifts(c=1), gifts(c=3),
                   (2, None, (4, 16, "ann", 5)))
        self.check(["loop c most 3", "send ann 5", "end"], 0, gifts(), gifts(c=3), (0, None, (2, 15, "ann", 5)))

    def test_gifts_that_are_not_alike(self):
        self.check(["send ann a"], 0, gifts(a=1), gifts(a=2), (0, (1, 14, "ann", 1), (1, 14, "ann", 2)))


class Kept(unittest.TestCase):
    """Point 2."""

    def test_all_stays_and_is_told_anew(self):
        rows = HEADS + ["main", "if c", "send cy 1", "else", "end", "send ann l at 0", "end"]
        program, one, other = read(rows), gifts(c=1), gifts(l=(1, 2))
        kept = copy.deepcopy((one, other))
        first = walk(program, 0, one, other)
        walk(program, 0, one, other)[0].clear()
        laid(program, 2, one, other)
        self.assertEqual(walk(program, 0, one, other), first)
        self.assertEqual((one, other), kept)
        self.assertEqual(written(program), rows)


if __name__ == "__main__":
    unittest.main()
