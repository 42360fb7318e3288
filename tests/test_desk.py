"""Point 33, and the interface of desk."""

import unittest

from hushrow.desk import Desk
from hushrow.errors import HushError, NoGift, NoLine, NoName, NoNest, NoRow, NotAlike, TooLong, TooMuch, Unknown

ROWS = [
    "hand ann open", "hand cy closed", "given a open", "given c closed", "given l closed 2", "own x", "own r 3",
    "let m open", "main", "set x a + 1", "put r 1 c", "if c", "send cy l at 0", "else", "end", "send ann x",
    "say x c rest 2 by m", "end",
]


def refusal(desk, line):
    """The class and the values of the refusal of this line; None where it is answered."""
    try:
        desk.say(line)
    except HushError as refused:
        return (type(refused),) + tuple(vars(refused).values())
    return None


def add(desk, name, rows):
    for row in rows:
        assert desk.say(f"add {name} {row}") == "ok"


def ready():
    """A desk with the program p and the gifts g."""
    desk = Desk()
    add(desk, "p", ROWS)
    for line in ["read p", "give g a 6", "give g c 3", "list g l 8 9"]:
        assert desk.say(line) == "ok"
    return desk


class DeskCase(unittest.TestCase):
    def ask(self, desk, line, answer):
        with self.subTest(line=line):
            told = desk.say(line)
            self.assertIs(type(told), str)
            self.assertEqual(told, answer)

    def refuse(self, desk, line, *told):
        with self.subTest(line=line):
            self.assertEqual(refusal(desk, line), told)


class Answers(DeskCase):
    def test_add_and_read(self):
        desk = Desk()
        for row in ["own x", "main", "end"]:
            self.ask(desk, "add p " + row, "ok")
        self.ask(desk, "read p", "ok")
        self.ask(desk, "rows p", "3")

    def test_add_any_text(self):
        for text, row in [("", 1), (" ", 1), ("\n", 1), ("\u00e4 \u0001", 1), (" main", 1), ("main ", 1), ("MAIN", 1)]:
            desk = Desk()
            self.ask(desk, "add p " + text, "ok")
            self.refuse(desk, "read p", NoRow, row)

    def test_a_draft_stays_behind_read(self):
        desk = Desk()
        add(desk, "p", ["main", "end"])
        desk.say("read p")
        self.ask(desk, "add p end", "ok")
        self.ask(desk, "rows p", "2")
        self.refuse(desk, "read p", NoNest, 3)
        self.ask(desk, "rows p", "2")

    def test_drop(self):
        desk = ready()
        self.ask(desk, "drop p", "ok")
        self.refuse(desk, "read p", Unknown, "p")
        self.refuse(desk, "rows p", Unknown, "p")
        self.refuse(desk, "drop p", Unknown, "p")
        add(desk, "p", ["main", "end"])
        self.ask(desk, "read p", "ok")
        self.ask(desk, "rows p", "2")

    def test_drop_of_a_draft_without_a_program(self):
        desk = Desk()
        desk.say("add p no row")
        self.ask(desk, "drop p", "ok")
        self.refuse(desk, "read p", Unknown, "p")

    def test_drop_leaves_gifts_and_others(self):
        desk = ready()
        desk.say("give p a 1")
        add(desk, "q", ["main", "end"])
        desk.say("read q")
        desk.say("drop p")
        self.ask(desk, "rows q", "2")
        self.ask(desk, "run q p", "end 0")

    def test_rows_and_row(self):
        desk = ready()
        self.ask(desk, "rows p", "18")
        for number, row in enumerate(ROWS, 1):
            self.ask(desk, f"row p {number}", row)
        for number in (0, 19, 200, 999999999999):
            self.ask(desk, f"row p {number}", "none")

    def test_look(self):
        desk = ready()
        self.ask(desk, "look p", "let by")
        self.ask(desk, "look p steps", "row 16 closed: c > row 12 > the clock > row 16")
        add(desk, "q", ["hand ann open", "given b house", "own x", "main", "set x b", "send ann x", "end"])
        desk.say("read q")
        self.ask(desk, "look q", "row 6 house: b > x > row 6")
        self.ask(desk, "look q steps", "row 6 house: b > x > row 6")

    def test_even(self):
        desk = ready()
        self.ask(desk, "even p q open", "ok")
        self.ask(desk, "row q 12", "if c idle 0 1")
        self.ask(desk, "row p 12", "if c")
        self.ask(desk, "look q steps", "let by")
        self.ask(desk, "rows q", "18")
        self.ask(desk, "read q", "ok")
        self.ask(desk, "row q 12", "if c idle 0 1")
        self.ask(desk, "even p q closed", "ok")
        self.ask(desk, "row q 12", "if c")

    def test_even_onto_a_name_that_is_taken(self):
        desk = ready()
        add(desk, "q", ["main", "end"])
        desk.say("read q")
        self.ask(desk, "even p q open", "ok")
        self.ask(desk, "rows q", "18")
        self.ask(desk, "even p p house", "ok")
        self.ask(desk, "row p 12", "if c idle 0 1")
        self.ask(desk, "add p end", "ok")
        self.refuse(desk, "read p", NoNest, 19)

    def test_even_makes_a_draft(self):
        desk = ready()
        add(desk, "q", ["no row"])
        desk.say("even p q open")
        self.ask(desk, "read q", "ok")
        self.ask(desk, "drop q", "ok")
        self.refuse(desk, "rows q", Unknown, "q")
        self.ask(desk, "rows p", "18")

    def test_give_and_list(self):
        desk = ready()
        self.ask(desk, "run p g", "4 cy 8; 5 ann 7; end 6")
        self.ask(desk, "give g a 0", "ok")
        self.ask(desk, "list g l 5 4", "ok")
        self.ask(desk, "run p g", "4 cy 5; 5 ann 1; end 6")
        self.ask(desk, "give g l 7", "ok")
        self.refuse(desk, "run p g", NoGift, "l")
        self.ask(desk, "list g a 7 7", "ok")
        self.refuse(desk, "run p g", NoGift, "a")

    def test_run(self):
        desk = ready()
        self.ask(desk, "give g c 0", "ok")
        self.ask(desk, "run p g", "4 ann 7; end 5")
        add(desk, "q", ["main", "end"])
        desk.say("read q")
        self.ask(desk, "run q g", "end 0")
        add(desk, "w", ["hand ann open", "main", "send ann 7", "if 1 idle 1 0", "else", "end", "end"])
        desk.say("read w")
        self.ask(desk, "run w g", "1 ann 7; end 3")

    def test_value(self):
        desk = ready()
        self.ask(desk, "value p g x", "1")
        self.ask(desk, "value p g r", "0 3 0")
        add(desk, "q", ["own s 1", "main", "put s 0 999999999999", "end"])
        desk.say("read q")
        self.ask(desk, "value q g s", "999999999999")

    def test_part(self):
        desk = ready()
        for line in ["give h a 6", "give h c 5", "list h l 1 2"]:
            desk.say(line)
        self.ask(desk, "part p open g h", "alike")
        self.ask(desk, "part p open g g", "alike")
        desk.say("give h c 4")
        self.ask(desk, "part p open g h", "row 17")
        self.ask(desk, "part p house h g", "row 17")
        self.refuse(desk, "part p closed g h", NotAlike, "c")

    def test_try(self):
        desk = ready()
        self.ask(desk, "try p a open", "letter 0")
        self.ask(desk, "try p c open", "open")
        self.ask(desk, "try p c closed", "letter 0")
        self.ask(desk, "try p l closed", "letter 0")
        self.ask(desk, "try p l house", "open")
        add(desk, "q", ["hand ann open", "given c closed", "main", "send ann 1", "send ann 2", "send ann c", "end"])
        desk.say("read q")
        self.ask(desk, "try q c open", "letter 2")


class Refused(DeskCase):
    def test_no_line(self):
        desk = ready()
        for line in ["", " ", "hello", "add p", "read  p", " read p", "read p ", "read P", "read abcdefghi", "row p 01",
                     "row p 1000000000000", "look p step", "even p q opened", "give g a 007", "list g l",
                     "list g l" + " 1" * 21, "run p", "run p g g", "value p g", "part p shut g g", "try p a Open",
                     "Rows p", "rows\tp", "drop p\n"]:
            self.refuse(desk, line, NoLine)

    def test_no_line_ahead_of_unknown(self):
        desk = Desk()
        for line in ["run p", "row p 01", "even p q shut", "value p g X", "part p shut g h", "try p x shut", "rows p p"]:
            self.refuse(desk, line, NoLine)

    def test_unknown(self):
        desk = ready()
        for line, name in [
            ("read q", "q"), ("drop q", "q"), ("rows q", "q"), ("row q 1", "q"), ("look q", "q"),
            ("look q steps", "q"), ("even q p open", "q"), ("run q g", "q"), ("run p h", "h"), ("run q h", "q"),
            ("value q g x", "q"), ("value p h x", "h"), ("value q h z", "q"), ("value p h z", "h"),
            ("value p g z", "z"), ("value p g a", "a"), ("value p g m", "m"), ("value p g ann", "ann"),
            ("part q open g g", "q"), ("part p open h g", "h"), ("part p open g h", "h"), ("part p open h i", "h"),
            ("part q open h i", "q"), ("try q a open", "q"), ("try p z open", "z"), ("try p x open", "x"),
            ("try p m open", "m"), ("try q z open", "q"), ("try p ann open", "ann"),
        ]:
            self.refuse(desk, line, Unknown, name)

    def test_unknown_ahead_of_what_the_stages_refuse(self):
        desk = ready()
        desk.say("give bad a 1")
        self.refuse(desk, "value p bad z", Unknown, "z")
        self.refuse(desk, "value p bad x", NoGift, "c")
        self.refuse(desk, "part p open bad h", Unknown, "h")
        self.refuse(desk, "part p open bad g", NoGift, "c")
        self.refuse(desk, "part p open g bad", NoGift, "c")

    def test_a_draft_is_no_program_and_gifts_are_none(self):
        desk = Desk()
        add(desk, "p", ["main", "end"])
        desk.say("give g a 1")
        for line in ["rows p", "row p 1", "look p", "even p q open", "run p g", "value p g x", "part p open g g",
                     "try p x open"]:
            self.refuse(desk, line, Unknown, "p")
        self.refuse(desk, "read g", Unknown, "g")
        self.refuse(desk, "drop g", Unknown, "g")
        desk.say("read p")
        self.refuse(desk, "run p p", Unknown, "p")

    def test_what_reading_refuses(self):
        for rows, told in [
            (["main"], (NoNest, 2)), (["main", ""], (NoRow, 2)), (["own x", "own x"], (NoName, 2, "x")),
            (["main"] + ["if 1"] * 7, (TooMuch, 8)),
            (["main", "if 1 idle 10000 0", "else", "end", "end"], (TooLong, 10001)),
        ]:
            desk = Desk()
            add(desk, "p", rows)
            self.refuse(desk, "read p", *told)
            self.refuse(desk, "rows p", Unknown, "p")

    def test_row_201_of_a_draft(self):
        desk = Desk()
        add(desk, "p", ["own x", "main"] + ["set x 1"] * 199)
        self.refuse(desk, "read p", TooMuch, 201)

    def test_a_program_stays_where_a_draft_is_not_read(self):
        desk = ready()
        desk.say("add p end")
        self.refuse(desk, "read p", NoNest, 19)
        self.ask(desk, "rows p", "18")
        self.ask(desk, "run p g", "4 cy 8; 5 ann 7; end 6")

    def test_what_is_refused_changes_nothing(self):
        desk = ready()
        for line in ["give g a", "give g a 01", "list g l 1 x", "list h l", "add p", "even z q open", "even p q shut",
                     "drop z", "read z", "run p z", "value p g z", "give h a 1000000000000"]:
            self.assertIsNotNone(refusal(desk, line))
        self.ask(desk, "run p g", "4 cy 8; 5 ann 7; end 6")
        for line in ["run p h", "rows q", "read q", "rows z", "run p z"]:
            self.assertIsNotNone(refusal(desk, line))
        self.ask(desk, "read p", "ok")
        self.ask(desk, "rows p", "18")


class Names(DeskCase):
    def test_the_same_name_for_a_program_and_for_gifts(self):
        desk = Desk()
        add(desk, "p", ["hand p open", "given x open", "main", "send p x", "end"])
        desk.say("give p x 5")
        self.ask(desk, "read p", "ok")
        self.ask(desk, "run p p", "1 p 5; end 1")
        self.ask(desk, "part p open p p", "alike")
        self.ask(desk, "drop p", "ok")
        add(desk, "p", ["hand p open", "given x open", "main", "send p x", "end"])
        desk.say("read p")
        self.ask(desk, "run p p", "1 p 5; end 1")

    def test_names_spelled_like_the_words_of_lines(self):
        desk = Desk()
        for name in ["add", "read", "drop", "rows", "row", "look", "steps", "even", "give", "list", "run", "value",
                     "part", "try", "open", "ok", "none", "end"]:
            add(desk, name, ["hand ann open", "given x open", "own y", "main", "send ann x", "end"])
            self.ask(desk, f"read {name}", "ok")
            self.ask(desk, f"rows {name}", "6")
            self.ask(desk, f"row {name} 5", "send ann x")
            self.ask(desk, f"look {name}", "let by")
            self.ask(desk, f"look {name} steps", "let by")
            self.ask(desk, f"give {name} x 3", "ok")
            self.ask(desk, f"run {name} {name}", "1 ann 3; end 1")
            self.ask(desk, f"value {name} {name} y", "0")
            self.ask(desk, f"part {name} open {name} {name}", "alike")
            self.ask(desk, f"try {name} x open", "letter 0")
            self.ask(desk, f"even {name} {name} open", "ok")
            self.ask(desk, f"drop {name}", "ok")

    def test_any_name_may_be_given(self):
        desk = ready()
        self.ask(desk, "give g zzz 1", "ok")
        self.ask(desk, "list g x 1", "ok")
        self.ask(desk, "run p g", "4 cy 8; 5 ann 7; end 6")


class Kept(DeskCase):
    def test_two_desks_share_nothing(self):
        ready()
        desk = Desk()
        self.refuse(desk, "read p", Unknown, "p")
        self.refuse(desk, "rows p", Unknown, "p")

    def test_runs_change_nothing(self):
        desk = ready()
        first = desk.say("run p g")
        for line in ["run p g", "value p g r", "part p open g g", "try p c closed", "look p steps"] * 2:
            if refusal(desk, line) is not None:
                self.fail(line)
        self.ask(desk, "run p g", first)
        self.ask(desk, "rows p", "18")

    def test_a_program_evened_stays_where_the_other_is_dropped(self):
        desk = ready()
        desk.say("even p q open")
        desk.say("drop p")
        self.ask(desk, "rows q", "18")
        self.ask(desk, "look q steps", "let by")


if __name__ == "__main__":
    unittest.main()
