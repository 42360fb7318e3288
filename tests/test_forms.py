"""Points 9 and 12 (which texts are rows at all), and point 2: the forms of rows."""

import unittest

from hushrow.forms import form_of

FORMS = [
    ("hand ann open", ("hand", "ann", 0)),
    ("hand ann house", ("hand", "ann", 1)),
    ("hand ann closed", ("hand", "ann", 2)),
    ("given x open", ("given", "x", 0, 0)),
    ("given x closed 1", ("given", "x", 2, 1)),
    ("given abcdefgh house 20", ("given", "abcdefgh", 1, 20)),
    ("own x", ("own", "x", 0)),
    ("own r 1", ("own", "r", 1)),
    ("own r 20", ("own", "r", 20)),
    ("let m open", ("let", "m", 0)),
    ("let m closed", ("let", "m", 2)),
    ("deed f", ("deed", "f", [])),
    ("deed f p", ("deed", "f", ["p"])),
    ("deed f p q", ("deed", "f", ["p", "q"])),
    ("deed f p q r", ("deed", "f", ["p", "q", "r"])),
    ("deed f p q r s", ("deed", "f", ["p", "q", "r", "s"])),
    ("main", ("main",)),
    ("set x 0", ("set", "x", (0,))),
    ("set x y", ("set", "x", ("y",))),
    ("set x 999999999999", ("set", "x", (999999999999,))),
    ("set x y + 1", ("set", "x", ("y", "+", 1))),
    ("set x y - z", ("set", "x", ("y", "-", "z"))),
    ("set x 2 * 3", ("set", "x", (2, "*", 3))),
    ("set x 2 over y", ("set", "x", (2, "over", "y"))),
    ("set x y rest 0", ("set", "x", ("y", "rest", 0))),
    ("set x y < z", ("set", "x", ("y", "<", "z"))),
    ("set x y = z", ("set", "x", ("y", "=", "z"))),
    ("set x r at 5", ("set", "x", ("r", "at", 5))),
    ("set x r at y", ("set", "x", ("r", "at", "y"))),
    ("put r 0 1", ("put", "r", 0, (1,))),
    ("put r a b", ("put", "r", "a", ("b",))),
    ("put r 3 a + b", ("put", "r", 3, ("a", "+", "b"))),
    ("put r a s at b", ("put", "r", "a", ("s", "at", "b"))),
    ("send ann 7", ("send", "ann", (7,))),
    ("send ann x = 7", ("send", "ann", ("x", "=", 7))),
    ("say x 1 by m", ("say", "x", (1,), "m")),
    ("say x y by m", ("say", "x", ("y",), "m")),
    ("say x r at 1 by m", ("say", "x", ("r", "at", 1), "m")),
    ("call f", ("call", "f", [])),
    ("call f 0", ("call", "f", [0])),
    ("call f a b", ("call", "f", ["a", "b"])),
    ("call f a 0 b", ("call", "f", ["a", 0, "b"])),
    ("call f a b c 12", ("call", "f", ["a", "b", "c", 12])),
    ("last", ("last",)),
    ("end", ("end",)),
    ("else", ("else",)),
    ("if 0", ("if", (0,), 0, 0)),
    ("if x", ("if", ("x",), 0, 0)),
    ("if x < 3", ("if", ("x", "<", 3), 0, 0)),
    ("if r at x", ("if", ("r", "at", "x"), 0, 0)),
    ("if x idle 0 3", ("if", ("x",), 0, 3)),
    ("if x idle 3 0", ("if", ("x",), 3, 0)),
    ("if x idle 1 2", ("if", ("x",), 1, 2)),
    ("if x = y idle 999999999999 2", ("if", ("x", "=", "y"), 999999999999, 2)),
    ("loop x most 1", ("loop", "x", 1, 0, 0)),
    ("loop 0 most 100", ("loop", 0, 100, 0, 0)),
    ("loop x most 5 idle 0 1", ("loop", "x", 5, 0, 1)),
    ("loop x most 5 idle 1 0", ("loop", "x", 5, 1, 0)),
    ("loop 999999999999 most 5 idle 7 999999999999", ("loop", 999999999999, 5, 7, 999999999999)),
]

# No word is kept for the language: its words stand as names.
SPELLED = [
    ("hand hand open", ("hand", "hand", 0)), ("hand open open", ("hand", "open", 0)),
    ("given given house", ("given", "given", 1, 0)), ("given closed closed 2", ("given", "closed", 2, 2)),
    ("own own", ("own", "own", 0)), ("own main 3", ("own", "main", 3)), ("let let house", ("let", "let", 1)),
    ("deed deed", ("deed", "deed", [])), ("deed main end else if", ("deed", "main", ["end", "else", "if"])),
    ("set set set", ("set", "set", ("set",))), ("set over over over over", ("set", "over", ("over", "over", "over"))),
    ("set at at at at", ("set", "at", ("at", "at", "at"))), ("set rest rest rest 1", ("set", "rest", ("rest", "rest", 1))),
    ("put put put put", ("put", "put", "put", ("put",))), ("put at at at at at", ("put", "at", "at", ("at", "at", "at"))),
    ("send send send", ("send", "send", ("send",))), ("send by by", ("send", "by", ("by",))),
    ("say x by by m", ("say", "x", ("by",), "m")), ("say by by by by", ("say", "by", ("by",), "by")),
    ("say by by at by by by", ("say", "by", ("by", "at", "by"), "by")),
    ("say say say by say", ("say", "say", ("say",), "say")),
    ("call call", ("call", "call", [])), ("call at at by", ("call", "at", ["at", "by"])),
    ("if if", ("if", ("if",), 0, 0)), ("if idle", ("if", ("idle",), 0, 0)),
    ("if idle idle 0 3", ("if", ("idle",), 0, 3)), ("if idle at idle", ("if", ("idle", "at", "idle"), 0, 0)),
    ("if idle over idle idle 2 0", ("if", ("idle", "over", "idle"), 2, 0)),
    ("loop most most 4", ("loop", "most", 4, 0, 0)), ("loop loop most 4", ("loop", "loop", 4, 0, 0)),
    ("loop idle most 4 idle 1 1", ("loop", "idle", 4, 1, 1)),
]

NO_FORMS = [
    "", " ", "  ", "x", "0", "row", "\n", "\t", "Main", "MAIN", "set", "put", "send", "say", "call", "if", "loop",
    "hand", "given", "own", "let", "deed", "open", "idle 0 3", "by m", "most 3", "at", "+", "#", "main main",
    "main x", "last x", "last last", "end end", "end if", "else if", "else x", "last 1",
    "hand ann", "hand ann open open", "hand ann open 1", "hand ann Open", "hand ann opened", "hand ann 0",
    "hand 1 open", "hand Ann open", "hand abcdefghi open", "hand open",
    "given x", "given open", "given x open 0", "given x open 21", "given x open 01", "given x open 100",
    "given x open -1", "given x open y", "given x open 3 3", "given x shut", "given x 3", "given x 3 open",
    "given 1 open", "given x1 open 3",
    "own x y", "own x 0", "own x 21", "own x 020", "own x 1 1", "own 1", "own 1 1", "own X", "own x open", "own",
    "let m", "let m open 1", "let m high", "let 1 open", "let open",
    "deed 1", "deed f 1", "deed f p q r s t", "deed f p 1 r", "deed F", "deed f P", "deed f p,q",
    "set x", "set x y z", "set x y +", "set x + y", "set x y + z +", "set x y + z + w", "set x y ++ z", "set x y at",
    "set x 1 at y", "set x 1 at 1", "set 1 x", "set x -1", "set x 1000000000000", "set x 01", "set x y / z",
    "set x y > z", "set x y == z", "set x y to z", "set x Y", "set x y Over z", "set x y set z", "set x = y = z",
    "put r", "put r a", "put r a b c", "put r a b +", "put 1 a b", "put r + b", "put r a b + c + d", "put r a 1 at b",
    "put r A b", "put r a b at",
    "send ann", "send ann x y", "send ann x +", "send 1 x", "send ann x + y + z", "send ann", "send x by m by m",
    "say x", "say x y", "say x y by", "say x y by 1", "say 1 y by m", "say x y By m", "say x y m", "say x y m by",
    "say x y by m m", "say x by m", "say x y z by m", "say x y + z m", "say x y + by m", "say x y + z + by m",
    "say x y + z by m by", "say x y + z + w by m", "say x y in m", "say x y + z in m", "say by by by",
    "call 1", "call f +", "call f a b c d e", "call f 1 2 3 4 5", "call f A", "call f 01", "call F",
    "if x y", "if x +", "if x + y +", "if x + y + z", "if + x", "if x idle", "if x idle 3", "if x idle 0 0",
    "if x + y idle 0 0", "if x idle 1 x", "if x idle x 1", "if x idle 1 2 3", "if x + y idle 1", "if x Idle 1 2",
    "if x idles 1 2", "if idle 1 2", "if x idle 01 2", "if x idle -1 2", "if x idle 1 1000000000000",
    "if x y idle 1 2", "if x idle 1 2 idle 1 2", "if x + y z idle 1 2", "if 1 at 1", "if x then 1 2",
    "loop x", "loop x most", "loop x most 0", "loop x most 101", "loop x most 1000", "loop x most y", "loop x most 01",
    "loop x Most 3", "loop x least 3", "loop + most 3", "loop x most 3 4", "loop x most 3 idle", "loop x most 3 idle 1",
    "loop x most 3 idle 0 0", "loop x most 3 idle 1 y", "loop x most 3 idle 1 2 3", "loop x most 0 idle 1 2",
    "loop x + y most 3", "loop x most 3 Idle 1 2", "loop most 3", "loop x y most 3", "loop x most 3 idle 1 -2",
    "loop x y 3 idle 1 2", "loop most 3 idle 1 2 3", "loop x most 101 idle 1 2",
]

# The first word is another one, or wrong in its case.
FIRST = ["Set x 0", "SET x 0", "sets x 0", "se x 0", "x set 0", "0 x 0", "+ x 0", "\u017fet x 0", "set\u00a0x 0"]

# Signs that Python counts as blanks or figures, but the document doesn't.
SIGNS = ["\t", "\n", "\r", "\x0b", "\x0c", "\x00", "\u00a0", "\u2003", "\u200b", "\u3000", "\u0085"]


class Forms(unittest.TestCase):
    def test_each_form(self):
        for text, form in FORMS + SPELLED:
            with self.subTest(text=text):
                self.assertEqual(form_of(text), form)

    def test_numbers_are_whole_numbers(self):
        for text, form in FORMS:
            for part in form_of(text):
                self.assertNotIsInstance(part, bool)

    def test_no_forms(self):
        for text in NO_FORMS + FIRST:
            with self.subTest(text=text):
                self.assertIsNone(form_of(text))

    def test_each_bound(self):
        for number in range(0, 130):
            self.assertEqual(form_of(f"own r {number}") is not None, 1 <= number <= 20)
            self.assertEqual(form_of(f"given r open {number}") is not None, 1 <= number <= 20)
            self.assertEqual(form_of(f"loop x most {number}") is not None, 1 <= number <= 100)
            self.assertEqual(form_of(f"loop x most {number} idle 1 0") is not None, 1 <= number <= 100)

    def test_how_many_parts_and_things(self):
        for count in range(8):
            self.assertEqual(form_of("deed f" + " p" * count) is not None, count <= 4)
            self.assertEqual(form_of("call f" + " 1" * count) is not None, count <= 4)
            self.assertEqual(form_of("call f" + " p" * count) is not None, count <= 4)

    def test_blanks(self):
        for text, form in FORMS + SPELLED:
            with self.subTest(text=text):
                self.assertIsNone(form_of(" " + text))
                self.assertIsNone(form_of(text + " "))
                self.assertIsNone(form_of("  " + text))
                self.assertIsNone(form_of(text + "  "))
                for at in range(len(text)):
                    if text[at] == " ":
                        self.assertIsNone(form_of(text[:at] + " " + text[at:]))

    def test_other_signs_are_no_blanks(self):
        for text, form in FORMS:
            for sign in SIGNS:
                self.assertIsNone(form_of(text + sign))
                self.assertIsNone(form_of(sign + text))
                if " " in text:
                    self.assertIsNone(form_of(text.replace(" ", sign, 1)))

    def test_a_word_more(self):
        # What these have room for, or need all words for, is told apart above.
        roomy = ("given", "own", "deed", "call")
        for text, form in FORMS:
            if form[0] not in roomy:
                for word in ("x", "0", "end", "+", "idle"):
                    with self.subTest(text=text, word=word):
                        self.assertIsNone(form_of(text + " " + word))

    def test_a_word_fewer(self):
        whole = {text for text, form in FORMS + SPELLED}
        for text, form in FORMS:
            fewer = text.rpartition(" ")[0]
            if form[0] not in ("given", "own", "deed", "call") and fewer not in whole:
                with self.subTest(text=fewer):
                    self.assertIsNone(form_of(fewer))

    def test_long_texts(self):
        for text in ["x" * 4000, " " * 4000, "set x " + "1" * 3994, "call f" + " a" * 1997, "deed f" + " a" * 1997]:
            self.assertIsNone(form_of(text))


class Kept(unittest.TestCase):
    """Point 2."""

    def test_each_form_is_the_askers_own(self):
        form_of("deed f p")[2].append("q")
        form_of("call f 1")[2].clear()
        self.assertEqual(form_of("deed f p"), ("deed", "f", ["p"]))
        self.assertEqual(form_of("call f 1"), ("call", "f", [1]))


if __name__ == "__main__":
    unittest.main()
