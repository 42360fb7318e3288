"""Point 33, the forms of the desk's lines."""

import unittest

from hushrow.lines import line_of

MOST = 10 ** 12 - 1

LINES = [
    ("add p set x 1", ("add", "p", "set x 1")), ("add p ", ("add", "p", "")), ("add p  ", ("add", "p", " ")),
    ("add p x", ("add", "p", "x")), ("add p  x ", ("add", "p", " x ")), ("add add add add", ("add", "add", "add add")),
    ("add p \n\u00e4\t", ("add", "p", "\n\u00e4\t")), ("add p END", ("add", "p", "END")),
    ("read p", ("read", "p")), ("read read", ("read", "read")), ("drop p", ("drop", "p")), ("drop drop", ("drop", "drop")),
    ("rows p", ("rows", "p")), ("rows rows", ("rows", "rows")), ("row p 1", ("row", "p", 1)), ("row row 0", ("row", "row", 0)),
    ("row p 999999999999", ("row", "p", MOST)),
    ("look p", ("look", "p", False)), ("look p steps", ("look", "p", True)), ("look steps", ("look", "steps", False)),
    ("look steps steps", ("look", "steps", True)), ("look look", ("look", "look", False)),
    ("even p q open", ("even", "p", "q", 0)), ("even p p closed", ("even", "p", "p", 2)),
    ("even open house house", ("even", "open", "house", 1)),
    ("give g x 0", ("give", "g", "x", 0)), ("give g g 999999999999", ("give", "g", "g", MOST)),
    ("list g x 1", ("list", "g", "x", [1])), ("list list list 1 2 3", ("list", "list", "list", [1, 2, 3])),
    ("list g x" + " 0" * 20, ("list", "g", "x", [0] * 20)),
    ("run p g", ("run", "p", "g")), ("run run run", ("run", "run", "run")),
    ("value p g x", ("value", "p", "g", "x")), ("value value value value", ("value", "value", "value", "value")),
    ("part p house g h", ("part", "p", 1, "g", "h")), ("part part open part part", ("part", "part", 0, "part", "part")),
    ("try p x closed", ("try", "p", "x", 2)), ("try open open open", ("try", "open", "open", 0)),
    ("read abcdefgh", ("read", "abcdefgh")),
]

NO_LINES = [
    "", " ", "p", "ok", "add", "add ", "add p", "add  p x", "add P x", "add abcdefghi x", "add 1 x", "add  ",
    "read", "read ", "read P", "read p q", "read abcdefghi", "read 1", "read p1", "drop", "drop p q", "rows", "rows p 1",
    "row p", "row p x", "row p 01", "row p -1", "row p 1000000000000", "row p 1 2", "row 1 p", "row p +1", "row p 1.0",
    "look", "look p step", "look p Steps", "look p steps steps", "look p open", "look p steps ", "look 1 steps",
    "even p q", "even p q Open", "even p q shut", "even p q 0", "even p q open open", "even p open", "even p 1 open",
    "even 1 q open", "give g x", "give g x y", "give g x 01", "give g x 1000000000000", "give g x -1", "give g x 1 2",
    "give g 1 1", "give 1 x 1", "give G x 1", "list g x", "list g x y", "list g x" + " 0" * 21, "list g x 1 y",
    "list g x 1 01", "list g x 1000000000000", "list g 1 1", "list 1 x 1", "list g 1",
    "run p", "run p g h", "run p 1", "run 1 g", "value p g", "value p g x y", "value p g 1", "value 1 g x", "value p 1 x",
    "part p house g", "part p house g h i", "part p g h house", "part p Open g h", "part p 1 g h", "part house p g h",
    "part 1 open g h", "part p open 1 h", "part p open g 1", "try p x", "try p x y", "try p x 0", "try p x open open",
    "try p open", "try 1 x open", "try p 1 open", "Read p", "READ p", "reads p", "end", "help", "say x",
]


class Lines(unittest.TestCase):
    def test_each_form(self):
        for text, line in LINES:
            with self.subTest(text=text):
                self.assertEqual(line_of(text), line)

    def test_no_lines(self):
        for text in NO_LINES:
            with self.subTest(text=text):
                self.assertIsNone(line_of(text))

    def test_blanks(self):
        for text, line in LINES:
            self.assertIsNone(line_of(" " + text))
            self.assertIsNone(line_of(text.replace(" ", "  ", 1)))
            if line[0] != "add":
                self.assertIsNone(line_of(text + " "))
                for at in range(len(text)):
                    if text[at] == " ":
                        self.assertIsNone(line_of(text[:at] + " " + text[at:]))
                for sign in "\t\n\r\u00a0\u3000":
                    self.assertIsNone(line_of(text + sign))
                    self.assertIsNone(line_of(text.replace(" ", sign, 1)))

    def test_how_many_numbers(self):
        for count in range(25):
            self.assertEqual(line_of("list g x" + " 7" * count) is not None, 1 <= count <= 20)

    def test_each_line_is_told_anew(self):
        line_of("list g x 1 2")[3].clear()
        self.assertEqual(line_of("list g x 1 2"), ("list", "g", "x", [1, 2]))


if __name__ == "__main__":
    unittest.main()
