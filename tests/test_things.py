"""Points 2, 7 and 8, and the interface of things."""

import unittest

from hushrow.things import is_name, names_in, number_of, thing_of, value_of, value_shown

BETWEEN = ["+", "-", "*", "over", "rest", "<", "="]

# No word is kept for the language, so each of these is a name too.
LANGUAGE = [
    "open", "house", "closed", "hand", "given", "own", "let", "deed", "main", "set", "put",
    "send", "say", "by", "call", "last", "end", "else", "if", "idle", "loop", "most",
    "at", "over", "rest",
]

NAMES = ["a", "z", "m", "ab", "zz", "abcdefgh", "zzzzzzzz", "ijklmnop", "qrstuvwx", "yz"] + LANGUAGE

NO_NAMES = [
    "", "abcdefghi", "a" * 4000, "A", "Ann", "aNn", "anN", "a1", "1a", "a0", "a_b", "_", "a-b", "a.b",
    "a b", " a", "a ", "a\n", "\na", "a\t", "a\0", "'a'", "`", "{", "+", "<", "=",
    "\u00e4", "a\u00e9", "\u00df", "\u0430", "\uff41", "\u00aa", "\u0131", "\u017f", "\U0001d41a",
]

NUMBERS = [
    ("0", 0), ("1", 1), ("9", 9), ("10", 10), ("42", 42), ("100", 100), ("909", 909),
    ("1234567890", 1234567890), ("100000000000", 10 ** 11), ("999999999999", 10 ** 12 - 1),
]

NO_NUMBERS = [
    "", "1000000000000", "9999999999999", "1" * 4000, "00", "01", "007", "000000000000", "0999999999999",
    "0000000000001", "+1", "-1", "-0", "+0", "1_000", "_1", "1.0", "1.", ".5", "1e3", "0x1", "0b1", "1,0",
    " 1", "1 ", "1\n", "\n1", "1 2", "1\0", "a", "1a", "a1", "O", "l",
    "\u0663", "1\u0663", "\uff13", "\u00b2", "1\u00b2", "\u096a", "\u2460", "\u00bd", "\U0001d7d9",
]


class Words(unittest.TestCase):
    def test_names(self):
        for word in NAMES:
            with self.subTest(word=word):
                self.assertIs(is_name(word), True)
                self.assertEqual(thing_of(word), word)
                self.assertIsNone(number_of(word))

    def test_each_letter(self):
        for sign in "abcdefghijklmnopqrstuvwxyz":
            self.assertIs(is_name(sign), True)
            self.assertIs(is_name(sign.upper()), False)

    def test_no_names(self):
        for word in NO_NAMES:
            with self.subTest(word=word):
                self.assertIs(is_name(word), False)
                self.assertIsNone(thing_of(word))

    def test_numbers(self):
        for word, number in NUMBERS:
            with self.subTest(word=word):
                for told in (number_of(word), thing_of(word)):
                    self.assertIs(type(told), int)
                    self.assertEqual(told, number)
                self.assertIs(is_name(word), False)

    def test_each_figure(self):
        for number in range(10):
            self.assertEqual(number_of(str(number)), number)

    def test_no_numbers(self):
        for word in NO_NUMBERS:
            with self.subTest(word=word):
                self.assertIsNone(number_of(word))
                self.assertEqual(thing_of(word), word if word in ("a", "l") else None)

    def test_only_the_signs_of_the_point_among_all_of_the_first_plane(self):
        signs = [chr(code) for code in range(0x10000)]
        self.assertEqual("".join(s for s in signs if is_name(s)), "abcdefghijklmnopqrstuvwxyz")
        self.assertEqual("".join(s for s in signs if number_of(s) is not None), "0123456789")


class OneThing(unittest.TestCase):
    def test_name_or_number(self):
        self.assertEqual(value_of(["x"]), ("x",))
        self.assertEqual(value_of(["0"]), (0,))
        self.assertEqual(value_of(["999999999999"]), (10 ** 12 - 1,))

    def test_no_thing(self):
        for word in ["", "X", "01", "+", "<", "x y", "x + y", "1000000000000", "abcdefghi"]:
            with self.subTest(word=word):
                self.assertIsNone(value_of([word]))

    def test_numbers_are_whole_numbers(self):
        self.assertIs(type(value_of(["1"])[0]), int)

    def test_is_a_tuple(self):
        self.assertIs(type(value_of(["x"])), tuple)


class TwoThings(unittest.TestCase):
    def test_each_word_with_names_and_numbers(self):
        for word in BETWEEN:
            for ahead, one in [("x", "x"), ("0", 0), ("12", 12)]:
                for behind, other in [("x", "x"), ("yy", "yy"), ("0", 0), ("7", 7)]:
                    with self.subTest(ahead=ahead, word=word, behind=behind):
                        told = value_of([ahead, word, behind])
                        self.assertIs(type(told), tuple)
                        self.assertEqual(told, (one, word, other))
                        self.assertEqual([type(p) for p in told], [type(one), str, type(other)])

    def test_other_words_between(self):
        words = ["", "/", "//", "%", "**", ">", "<=", "==", "++", "and", "x", "1", "by", "idle", "most"]
        words += ["At", "AT", "Over", "REST", "at ", " at", "+ ", "ove", "overr", "\u2212", "\u00d7", "ov\u0435r"]
        for word in words:
            with self.subTest(word=word):
                self.assertIsNone(value_of(["x", word, "y"]))

    def test_no_thing_ahead_or_behind(self):
        for word in BETWEEN + ["at"]:
            for wrong in ["", "X", "01", "+", "1000000000000", "abcdefghi", "x y", "-1"]:
                with self.subTest(word=word, wrong=wrong):
                    self.assertIsNone(value_of([wrong, word, "x"]))
                    self.assertIsNone(value_of(["x", word, wrong]))
                    self.assertIsNone(value_of([wrong, word, wrong]))


class At(unittest.TestCase):
    def test_a_name_ahead(self):
        self.assertEqual(value_of(["r", "at", "x"]), ("r", "at", "x"))
        self.assertEqual(value_of(["r", "at", "0"]), ("r", "at", 0))
        self.assertEqual(value_of(["r", "at", "r"]), ("r", "at", "r"))
        self.assertIs(type(value_of(["r", "at", "3"])[2]), int)

    def test_a_number_ahead(self):
        self.assertIsNone(value_of(["0", "at", "x"]))
        self.assertIsNone(value_of(["3", "at", "3"]))


class Counts(unittest.TestCase):
    def test_neither_one_nor_three_words(self):
        for words in [
            [], ["x", "y"], ["x", "+"], ["+", "x"], ["r", "at"], ["x", "+", "y", "z"],
            ["x", "+", "y", "+", "z"], ["r", "at", "x", "+", "y"], ["x", "x", "x", "x"],
        ]:
            with self.subTest(words=words):
                self.assertIsNone(value_of(words))


class LanguageWords(unittest.TestCase):
    def test_as_one_thing(self):
        for word in LANGUAGE:
            self.assertEqual(value_of([word]), (word,))

    def test_ahead_and_behind(self):
        for word in LANGUAGE:
            for between in BETWEEN + ["at"]:
                value = (word, between, word)
                with self.subTest(value=value):
                    self.assertEqual(value_of(list(value)), value)
                    self.assertEqual(names_in(value), [word])
                    self.assertEqual(value_shown(value), f"{word} {between} {word}")

    def test_the_word_between_is_no_name_by_itself(self):
        self.assertEqual(names_in(("at", "at", 0)), ["at"])
        self.assertEqual(names_in((1, "over", "rest")), ["rest"])
        self.assertEqual(names_in((1, "over", 2)), [])
        self.assertEqual(names_in(("rest", "over", "at")), ["rest", "at"])
        self.assertEqual(names_in(("over", "rest", "over")), ["over"])


class Shown(unittest.TestCase):
    def test_the_words_again(self):
        words = ["x", "0", "7", "999999999999", "abcdefgh"]
        rows = [[word] for word in words]
        rows += [[a, w, b] for a in words for w in BETWEEN for b in words]
        rows += [[a, "at", b] for a in ("r", "at") for b in words]
        for row in rows:
            with self.subTest(row=row):
                shown = value_shown(value_of(row))
                self.assertIs(type(shown), str)
                self.assertEqual(shown, " ".join(row))
                self.assertEqual(value_of(shown.split(" ")), value_of(row))


class Names(unittest.TestCase):
    def test_in_their_order(self):
        self.assertEqual(names_in(("x", "+", "y")), ["x", "y"])
        self.assertEqual(names_in(("y", "+", "x")), ["y", "x"])
        self.assertEqual(names_in(("r", "at", "a")), ["r", "a"])
        self.assertEqual(names_in(("x", "<", 3)), ["x"])
        self.assertEqual(names_in((3, "=", "x")), ["x"])
        self.assertEqual(names_in(("r", "at", 0)), ["r"])
        self.assertEqual(names_in(("x",)), ["x"])

    def test_each_once(self):
        self.assertEqual(names_in(("x", "*", "x")), ["x"])
        self.assertEqual(names_in(("r", "at", "r")), ["r"])

    def test_numbers_left_out(self):
        self.assertEqual(names_in((0,)), [])
        self.assertEqual(names_in((1, "-", 2)), [])


class OwnLists(unittest.TestCase):
    def test_the_list_handed_in_stays(self):
        for words in [[], ["x"], ["01"], ["x", "+", "3"], ["3", "at", "x"], ["r", "at", "x"], ["a", "b"]]:
            kept = list(words)
            value_of(words)
            self.assertEqual(words, kept)

    def test_a_later_change_of_it_changes_no_answer(self):
        words = ["x", "+", "3"]
        value = value_of(words)
        words[0] = "y"
        self.assertEqual(value, ("x", "+", 3))

    def test_a_told_list_is_the_askers_own(self):
        for value in [("x",), (1,), ("x", "+", "y"), ("r", "at", 0)]:
            told = names_in(value)
            kept = list(told)
            told.append("z")
            self.assertEqual(names_in(value), kept)
            self.assertIsNot(names_in(value), names_in(value))


if __name__ == "__main__":
    unittest.main()
