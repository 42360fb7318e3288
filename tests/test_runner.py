"""Points 2 and 16 to 19, and the interface of books and runner."""

import copy
import unittest

from hushrow.books import Book
from hushrow.costs import exact, most
from hushrow.errors import NoGift
from hushrow.reader import read
from hushrow.rows import CallRow, DeedRow, OwnRow, Program, SetRow
from hushrow.runner import run
from hushrow.writer import written
from samples import SPELLED, WHOLE, Second, drawn

MOST = 10 ** 12 - 1
HEADS = ["hand ann open", "hand bob closed", "given g open", "given h closed", "given l open 3", "own x", "own y",
         "own r 3", "own s 1", "let m open", "let n closed"]
GIFTS = {"g": 4, "h": 9, "l": [10, 20, 30]}


def booked(main, deeds=(), gifts=None):
    """The book of a run of main, row 12 being the row main where there are no deeds."""
    return run(read(HEADS + list(deeds) + ["main"] + list(main) + ["end"]), GIFTS if gifts is None else gifts)


def told(book):
    return (book.letters, book.said, book.trace, book.steps, book.ends)


class Books(unittest.TestCase):
    def test_made_empty(self):
        book = Book()
        self.assertEqual(told(book), ([], [], [], 0, {}))
        self.assertEqual([type(part) for part in told(book)], [list, list, list, int, dict])

    def test_two_share_nothing(self):
        one, other = Book(), Book()
        one.letters.append(1)
        one.said.append(1)
        one.trace.append(1)
        one.ends["x"] = 1
        self.assertEqual(told(other), ([], [], [], 0, {}))
        self.assertEqual(told(Book()), ([], [], [], 0, {}))


class EachRow(unittest.TestCase):
    def test_nothing(self):
        book = booked([])
        self.assertIs(type(book), Book)
        self.assertEqual(told(book), ([], [], [], 0, {"x": 0, "y": 0, "r": [0, 0, 0], "s": [0]}))

    def test_set(self):
        book = booked(["set x g + 1"])
        self.assertEqual((book.letters, book.said, book.trace, book.steps), ([], [], [(13, 1, None)], 1))
        self.assertEqual(book.ends, {"x": 5, "y": 0, "r": [0, 0, 0], "s": [0]})

    def test_put(self):
        book = booked(["put r 1 g"])
        self.assertEqual((book.letters, book.said, book.trace, book.steps), ([], [], [(13, 1, None)], 1))
        self.assertEqual(book.ends["r"], [0, 4, 0])

    def test_send(self):
        book = booked(["send ann g"])
        self.assertEqual((book.letters, book.said, book.trace, book.steps), ([(1, 13, "ann", 4)], [], [(13, 1, 4)], 1))

    def test_say(self):
        book = booked(["say x g by m"])
        self.assertEqual((book.letters, book.said, book.trace, book.steps), ([], [(1, 13, "m", 4)], [(13, 1, 4)], 1))
        self.assertEqual(book.ends["x"], 4)

    def test_a_number_of_0_is_told_as_0(self):
        self.assertEqual(booked(["send ann 0", "say x 0 by m"]).trace, [(13, 1, 0), (14, 2, 0)])

    def test_one_after_another(self):
        book = booked(["set x 3", "send ann x", "say y x + g by n", "send bob y", "put r 2 y", "send ann r at 2",
                       "set x 0"])
        self.assertEqual(book.letters, [(2, 14, "ann", 3), (4, 16, "bob", 7), (6, 18, "ann", 7)])
        self.assertEqual(book.said, [(3, 15, "n", 7)])
        self.assertEqual(book.trace, [(13, 1, None), (14, 2, 3), (15, 3, 7), (16, 4, 7), (17, 5, None), (18, 6, 7),
                                      (19, 7, None)])
        self.assertEqual(book.steps, 7)
        self.assertEqual(book.ends, {"x": 0, "y": 7, "r": [0, 0, 7], "s": [0]})

    def test_values(self):
        for value, number in [
            ("5", 5), ("g", 4), ("g + 3", 7), ("0 - g", MOST - 3), (f"{MOST} * g", MOST - 3), ("h over g", 2),
            ("h rest g", 1), ("h over x", 0), ("h rest x", 9), ("g < h", 1), ("h < g", 0), ("g = 4", 1), ("g = h", 0),
            ("l at 0", 10), ("l at 2", 30), ("l at 3", 10), ("l at g", 20), (f"l at {MOST}", 10), ("s at h", 0),
        ]:
            with self.subTest(value=value):
                self.assertEqual(booked([f"set y {value}"]).ends["y"], number)
                self.assertEqual(booked([f"send ann {value}"]).letters, [(1, 13, "ann", number)])

    def test_places_go_round_in_put(self):
        for place, at in [("0", 0), ("2", 2), ("3", 0), ("g", 1), ("h", 0), (str(MOST), 0), ("4", 1)]:
            ends = [0, 0, 0]
            ends[at] = 8
            self.assertEqual(booked([f"put r {place} 8"]).ends["r"], ends)
        self.assertEqual(booked(["put s 7 8"]).ends["s"], [8])

    def test_put_reads_the_list_as_it_was(self):
        book = booked(["put r 0 1", "put r 1 r at 0", "put r 0 r at 5"])
        self.assertEqual(book.ends["r"], [0, 1, 0])

    def test_say_in_a_deed_and_of_a_part(self):
        book = booked(["call f 3", "call f 4"], ["deed f p", "say p p * 2 by m", "send ann p", "end"])
        self.assertEqual(book.said, [(2, 13, "m", 6), (5, 13, "m", 8)])
        self.assertEqual(book.letters, [(3, 14, "ann", 6), (6, 14, "ann", 8)])

    def test_a_value_is_reckoned_ahead_of_what_is_given(self):
        self.assertEqual(booked(["set x 5", "set x x + x"]).ends["x"], 10)
        self.assertEqual(booked(["set x 5", "say x x + 1 by m"]).said, [(2, 14, "m", 6)])


class Ifs(unittest.TestCase):
    def test_either_side(self):
        rows = ["if {}", "set x 1", "set x 2", "else", "set x 3", "end", "send ann x"]
        book = booked([row.format("g") for row in rows])
        self.assertEqual(book.trace, [(13, 1, None), (14, 2, None), (15, 3, None), (19, 4, 2)])
        book = booked([row.format("y") for row in rows])
        self.assertEqual(book.trace, [(13, 1, None), (17, 2, None), (19, 3, 3)])

    def test_what_counts_as_not_0(self):
        for value, side in [("0", 2), ("1", 1), (str(MOST), 1), ("g - 4", 2), ("h - 8", 1), ("g = 4", 1), ("g < 4", 2)]:
            self.assertEqual(booked([f"if {value}", "set x 1", "else", "set x 2", "end"]).ends["x"], side)

    def test_idles(self):
        rows = ["if {} idle 5 7", "set x 1", "else", "end", "send ann 1"]
        book = booked([row.format("g") for row in rows])
        self.assertEqual((book.trace, book.steps), ([(13, 1, None), (14, 2, None), (17, 8, 1)], 8))
        book = booked([row.format("y") for row in rows])
        self.assertEqual((book.trace, book.steps), ([(13, 1, None), (17, 9, 1)], 9))

    def test_empty_sides(self):
        self.assertEqual(booked(["if g", "else", "end"]).steps, 1)
        self.assertEqual(booked(["if y", "else", "end"]).steps, 1)
        self.assertEqual(booked(["if y idle 0 2", "else", "end"]).steps, 3)

    def test_the_test_is_reckoned_once(self):
        book = booked(["if x = 0", "set x 1", "set y y + 1", "else", "set y 9", "end"])
        self.assertEqual(book.ends["y"], 1)


class Loops(unittest.TestCase):
    def rounds(self, thing, count=5, gifts=None):
        book = booked([f"loop {thing} most {count}", "set x x + 1", "end"], gifts=gifts)
        self.assertEqual(book.steps, 1 + book.ends["x"])
        return book.ends["x"]

    def test_how_many_rounds(self):
        for thing, count in [("0", 0), ("1", 1), ("4", 4), ("5", 5), ("6", 5), (str(MOST), 5), ("g", 4), ("h", 5),
                             ("y", 0)]:
            self.assertEqual(self.rounds(thing), count)
        self.assertEqual(self.rounds("h", 1), 1)
        self.assertEqual(self.rounds("0", 1), 0)
        self.assertEqual(self.rounds("100", 100), 100)

    def test_trace(self):
        book = booked(["loop 2 most 5", "send ann x", "set x x + 1", "end", "set y 1"])
        self.assertEqual(book.trace, [(13, 1, None), (14, 2, 0), (15, 3, None), (14, 4, 1), (15, 5, None),
                                      (17, 6, None)])

    def test_the_thing_is_reckoned_once(self):
        book = booked(["set y 3", "loop y most 9", "set y 0", "set x x + 1", "end"])
        self.assertEqual((book.ends["x"], book.ends["y"]), (3, 0))
        book = booked(["set y 3", "loop y most 9", "set y y + 5", "set x x + 1", "end"])
        self.assertEqual(book.ends["x"], 3)

    def test_idles(self):
        for thing, steps in [("0", 1 + 4 * 7), ("1", 1 + 1 + 2 + 3 * 7), ("3", 1 + 3 * 3 + 7), ("4", 1 + 4 * 3),
                             ("9", 1 + 4 * 3)]:
            book = booked([f"loop {thing} most 4 idle 2 7", "set x 1", "end", "send ann 1"])
            self.assertEqual(book.steps, steps + 1)
            self.assertEqual(book.letters, [(steps + 1, 16, "ann", 1)])

    def test_idles_behind_each_round(self):
        book = booked(["loop 3 most 4 idle 2 7", "send ann x", "end"])
        self.assertEqual([letter[0] for letter in book.letters], [2, 5, 8])
        self.assertEqual(book.steps, 10 + 7)

    def test_no_rows(self):
        self.assertEqual(booked(["loop 3 most 4", "end"]).steps, 1)
        self.assertEqual(booked(["loop 3 most 4 idle 1 10", "end"]).steps, 14)

    def test_last_in_the_first_round(self):
        book = booked(["loop 3 most 4 idle 2 7", "last", "set x x + 1", "end"])
        self.assertEqual((book.ends["x"], book.steps), (1, 1 + 2 + 2 + 3 * 7))
        self.assertEqual(book.trace, [(13, 1, None), (14, 2, None), (15, 3, None)])

    def test_last_in_a_middle_round_within_an_if(self):
        for count in (1, 2, 3, 4):
            book = booked(["loop 4 most 4 idle 1 5", "set x x + 1", f"if x = {count}", "last", "set y x", "else",
                           "end", "end"])
            self.assertEqual((book.ends["x"], book.ends["y"]), (count, count))
            self.assertEqual(book.steps, 1 + count * 3 + 2 + (4 - count) * 5)

    def test_last_on_the_other_side_and_deeper(self):
        book = booked(["loop 9 most 9", "set x x + 1", "if x < 3", "else", "if g", "if 1", "last", "else", "end",
                       "else", "end", "end", "set y y + 1", "end"])
        self.assertEqual((book.ends["x"], book.ends["y"]), (3, 3))

    def test_last_of_an_inner_loop(self):
        book = booked(["loop 3 most 3", "loop 5 most 5", "last", "set x x + 1", "end", "set y y + 1", "end"])
        self.assertEqual((book.ends["x"], book.ends["y"]), (3, 3))

    def test_last_of_the_outer_loop_behind_and_ahead_of_an_inner_one(self):
        book = booked(["loop 3 most 3", "loop 2 most 2", "set x x + 1", "end", "last", "end"])
        self.assertEqual(book.ends["x"], 2)
        book = booked(["loop 3 most 3", "last", "loop 2 most 2", "set x x + 1", "end", "end"])
        self.assertEqual(book.ends["x"], 2)

    def test_last_twice_and_in_the_last_round(self):
        book = booked(["loop 2 most 2 idle 0 3", "set x x + 1", "if x = 2", "last", "last", "else", "end", "end"])
        self.assertEqual((book.ends["x"], book.steps), (2, 1 + 2 * 2 + 2))

    def test_a_last_in_a_deed_ends_no_loop_of_the_caller(self):
        deeds = ["deed f", "loop 5 most 5", "last", "set y y + 1", "end", "end"]
        book = booked(["loop 3 most 3", "call f", "set x x + 1", "end"], deeds)
        self.assertEqual((book.ends["x"], book.ends["y"]), (3, 3))

    def test_a_loop_is_run_anew_behind_a_last(self):
        book = booked(["loop 2 most 2", "set y 0", "loop 3 most 3", "set y y + 1", "if y = 2", "last", "else", "end",
                       "set x x + 1", "end", "end"])
        self.assertEqual(book.ends["x"], 4)


class Calls(unittest.TestCase):
    def test_parts(self):
        book = booked(["call f g 7", "send ann x"], ["deed f p q", "set x p * q", "end"])
        self.assertEqual(book.trace, [(16, 1, None), (13, 2, None), (17, 3, 28)])
        self.assertEqual(book.ends["x"], 28)

    def test_an_empty_deed(self):
        book = booked(["call f"], ["deed f", "end"])
        self.assertEqual((book.trace, book.steps), ([(15, 1, None)], 1))

    def test_four_parts(self):
        book = booked(["call f 1 2 3 g"], ["deed f a b c d", "put r 0 a * b", "put r 1 c", "put r 2 d", "end"])
        self.assertEqual(book.ends["r"], [2, 3, 4])

    def test_parts_in_another_order(self):
        deeds = ["deed f p q", "set x p", "set y q", "end", "deed k u v", "call f v u", "end"]
        self.assertEqual(booked(["call k 1 2"], deeds).ends, {"x": 2, "y": 1, "r": [0, 0, 0], "s": [0]})

    def test_all_things_are_reckoned_ahead(self):
        # By hand, for no text lets a call of a deed have the deed's own parts as things.
        deed = DeedRow(3, "f", ["p", "q"], [SetRow(4, "x", ("p",)), SetRow(5, "y", ("q",))])
        program = Program([OwnRow(1, "x", 0), OwnRow(2, "y", 0)], [deed],
                          [CallRow(8, "f", [1, 2]), CallRow(9, "f", ["q", "p"])])
        self.assertEqual(run(program, {}).ends, {"x": 2, "y": 1})

    def test_parts_keep_their_numbers(self):
        deeds = ["deed f p", "set p p + 1", "set x x + p", "end", "deed k", "call f 5", "call f 5", "end"]
        self.assertEqual(booked(["call k", "call f 0"], deeds).ends["x"], 13)

    def test_what_is_done_to_a_part_stays_in_its_deed(self):
        deeds = ["deed f p", "set p p * 2", "end", "deed k q", "call f q", "set x x + q", "end"]
        self.assertEqual(booked(["call k 3", "call k 4"], deeds).ends["x"], 7)

    def test_deeds_that_call_deeds(self):
        deeds = ["deed f p", "send ann p", "end", "deed k q", "call f q", "call f q", "end",
                 "deed w", "loop 2 most 2", "call k g", "end", "end"]
        book = booked(["call w"], deeds)
        self.assertEqual(book.letters, [(step, 13, "ann", 4) for step in (5, 7, 10, 12)])
        self.assertEqual(book.steps, 12)

    def test_eight_deeds_each_in_six_within_one_another(self):
        opening = ["if 1", "loop 1 most 1", "if 1", "loop 1 most 1", "if 1", "loop 1 most 1"]
        closing = ["end", "else", "end"] * 3
        rows, inside = ["own x"], "set x x + 1"
        for name in "abcdefgh":
            rows += [f"deed {name}"] + opening + [inside] + closing + ["end"]
            inside = f"call {name}"
        book = run(read(rows + ["main"] + opening + [inside] + closing + ["end"]), {})
        self.assertEqual((book.ends, book.steps), ({"x": 1}, 9 * 7))


class Bounds(unittest.TestCase):
    def test_most_and_exact_steps(self):
        even = 0
        for one in drawn(150):
            program = read(one.rows)
            for count in range(4):
                book = run(program, one.gifts())
                self.assertLessEqual(book.steps, most(program))
                self.assertIn(exact(program), (None, book.steps))
            even += exact(program) is not None
        self.assertGreater(even, 20)

    def test_balanced_by_idles(self):
        rows = ["if {} idle 0 6", "loop {} most 3 idle 1 2", "last", "end", "else", "end", "send ann 1"]
        for side in ("0", "1", "g", "y", "9"):
            main = [row.format(side) for row in rows]
            self.assertEqual(booked(main).steps, 1 + 7 + 1 if side not in ("0", "y") else 8)
        rows[0] = "if {} idle 0 7"
        for side in ("0", "1", "g", "y", "9"):
            self.assertEqual(booked([row.format(side) for row in rows]).steps, 9)

    def test_a_run_of_ten_thousand_steps(self):
        program = read(["own x", "main", "loop 99 most 99 idle 0 101"] + ["set x x + 1"] * 101 + ["end", "end"])
        self.assertEqual(run(program, {}).ends["x"], 9999)
        self.assertEqual(run(program, {}).steps, most(program))

    def test_a_second_way_to_run(self):
        for one in drawn(150, 1000):
            program = read(one.rows)
            for count in range(3):
                gifts = one.gifts()
                second = Second(one.rows, gifts)
                self.assertEqual(told(run(program, gifts)), told(second))
        for rows in (WHOLE, SPELLED):
            program = read(rows)
            gifts = {"a": 1, "b": 2, "c": 7, "la": [1, 2, 3], "lc": [4], "given": 3, "open": 4, "list": [1, 2]}
            self.assertEqual(told(run(program, gifts)), told(Second(rows, gifts)))


class Gifts(unittest.TestCase):
    def test_refused(self):
        for gifts, name in [({}, "g"), ({"g": 1, "h": True, "l": [1, 2, 3]}, "h"), ({"g": 1, "h": 2}, "l"),
                            ({"h": -1, "l": []}, "g"), ({"g": 1, "h": 2, "l": [1, 2]}, "l")]:
            with self.assertRaises(NoGift) as caught:
                booked(["set x 1"], gifts=gifts)
            self.assertEqual(caught.exception.name, name)

    def test_more_names_than_needed(self):
        self.assertEqual(booked(["set x g"], gifts={**GIFTS, "x": 5, "zzz": None}).ends["x"], 4)


class Kept(unittest.TestCase):
    """Point 2."""

    ROWS = HEADS + ["deed f p", "set p p + 1", "put r p p", "end", "main", "set x x + g", "put s 0 h", "call f x",
                    "send ann l at 1", "say y h by m", "end"]

    def test_the_same_program_again(self):
        program = read(self.ROWS)
        first = told(run(program, GIFTS))
        self.assertEqual(told(run(program, GIFTS)), first)
        other = {"g": 1, "h": 1, "l": [0, 0, 0]}
        self.assertNotEqual(told(run(program, other)), first)
        self.assertEqual(told(run(program, GIFTS)), first)

    def test_gifts_and_program_stay(self):
        program, gifts = read(self.ROWS), copy.deepcopy(GIFTS)
        run(program, gifts)
        self.assertEqual(gifts, GIFTS)
        self.assertEqual(written(program), self.ROWS)

    def test_what_is_done_to_a_book_changes_no_later_run(self):
        program = read(self.ROWS)
        book = run(program, GIFTS)
        first = copy.deepcopy(told(book))
        book.ends["r"].clear()
        book.ends["s"][0] = 99
        for part in (book.letters, book.said, book.trace, book.ends):
            part.clear()
        book.steps = 77
        self.assertEqual(told(run(program, GIFTS)), first)

    def test_a_later_run_changes_no_book(self):
        program = read(self.ROWS)
        book = run(program, GIFTS)
        first = copy.deepcopy(told(book))
        run(program, {"g": 2, "h": 1, "l": [5, 6, 7]})
        self.assertEqual(told(book), first)


if __name__ == "__main__":
    unittest.main()
