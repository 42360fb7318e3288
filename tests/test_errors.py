"""Points 2 and 26, and the interface under hushrow/errors.py."""

import unittest

from hushrow import errors

CHAIN = [("a", "x", "value", 4), ("x", "row 6", "value", 6)]

# Each refusal with its arguments, by the names under which it keeps them, in their order.
REFUSALS = [
    (errors.NoRank, {"word": "Open"}),
    (errors.NoRow, {"row": 3}),
    (errors.NoNest, {"row": 1}),
    (errors.TooMuch, {"row": 201}),
    (errors.NoName, {"row": 7, "name": "ann"}),
    (errors.TooLong, {"steps": 10001}),
    (errors.NoGift, {"name": "ann"}),
    (errors.NotAlike, {"name": "bob"}),
    (errors.Leak, {"row": 6, "rank": 2, "chain": CHAIN}),
    (errors.NoLine, {}),
    (errors.Unknown, {"name": "cid"}),
]


class Values(unittest.TestCase):
    def check(self, error, values):
        for name, value in values.items():
            self.assertEqual(getattr(error, name), value)
            self.assertIs(type(getattr(error, name)), type(value))

    def test_made_in_order(self):
        for kind, values in REFUSALS:
            with self.subTest(kind=kind.__name__):
                self.check(kind(*values.values()), values)

    def test_made_by_names(self):
        for kind, values in REFUSALS:
            with self.subTest(kind=kind.__name__):
                self.check(kind(**values), values)

    def test_values_of_two_stay_apart(self):
        first, later = errors.NoName(1, "a"), errors.NoName(2, "b")
        self.assertEqual((first.row, first.name), (1, "a"))
        self.assertEqual((later.row, later.name), (2, "b"))

    def test_shown(self):
        for kind, values in REFUSALS:
            with self.subTest(kind=kind.__name__):
                self.assertIsInstance(str(kind(*values.values())), str)


class Classes(unittest.TestCase):
    def test_hush_error_stands_under_value_error(self):
        self.assertTrue(issubclass(errors.HushError, ValueError))

    def test_each_is_raised_and_taken_as_any_of_its_three(self):
        for kind, values in REFUSALS:
            for taken in (kind, errors.HushError, ValueError):
                with self.subTest(kind=kind.__name__, taken=taken.__name__):
                    with self.assertRaises(taken) as caught:
                        raise kind(*values.values())
                    self.assertIs(type(caught.exception), kind)

    def test_none_stands_under_another(self):
        for kind, _ in REFUSALS:
            for other, _ in REFUSALS:
                if kind is not other:
                    with self.subTest(kind=kind.__name__, other=other.__name__):
                        self.assertFalse(issubclass(kind, other))

    def test_none_stands_under_another_error_of_python(self):
        for kind, _ in REFUSALS:
            with self.subTest(kind=kind.__name__):
                self.assertEqual(
                    [c for c in kind.__mro__ if issubclass(c, ValueError)],
                    [kind, errors.HushError, ValueError],
                )

    def test_hush_error_is_none_of_them(self):
        for kind, _ in REFUSALS:
            self.assertFalse(issubclass(errors.HushError, kind))


class LeakChain(unittest.TestCase):
    def test_list_handed_in_stays(self):
        chain = list(CHAIN)
        errors.Leak(6, 2, chain).chain.clear()
        self.assertEqual(chain, CHAIN)

    def test_later_change_of_the_list_handed_in(self):
        chain = list(CHAIN)
        leak = errors.Leak(6, 2, chain)
        chain.pop()
        self.assertEqual(leak.chain, CHAIN)

    def test_empty_chain(self):
        self.assertEqual(errors.Leak(1, 0, []).chain, [])


if __name__ == "__main__":
    unittest.main()
