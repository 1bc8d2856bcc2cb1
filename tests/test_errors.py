"""Promise [9], and what [3] says of copies, for undertap.errors."""

import unittest

from tests.kinds import kinds
from undertap import errors
from undertap.errors import TapError

ATTRIBUTES = {
    "BadRule": "part",
    "BadHouse": "part",
    "BadMoment": "at",
    "BadWish": "at",
    "BadScreens": "at",
    "TooMany": "most",
    "BadJournal": "at",
    "BadText": "line",
}
PLAIN = ("BadStanding", "BadMeasure", "OtherHouses", "NothingDone")
NAMES = tuple(ATTRIBUTES) + PLAIN


def made(name):
    """An error of this name."""
    return getattr(errors, name)("why")


class Families(unittest.TestCase):
    def test_there_are_twelve(self):
        self.assertEqual(len(set(NAMES)), 12)
        for name in NAMES:
            with self.subTest(name):
                self.assertEqual(getattr(errors, name).__name__, name)

    def test_the_base_stands_directly_below_value_error(self):
        self.assertEqual(TapError.__bases__, (ValueError,))
        self.assertEqual(TapError.__name__, "TapError")

    def test_each_stands_directly_below_the_base(self):
        for name in NAMES:
            with self.subTest(name):
                self.assertEqual(getattr(errors, name).__bases__, (TapError,))

    def test_each_is_caught_as_itself_as_the_base_and_as_a_value_error(self):
        for name in NAMES:
            for kind in (getattr(errors, name), TapError, ValueError):
                with self.subTest(name, kind=kind), self.assertRaises(kind):
                    raise made(name)

    def test_none_is_one_of_the_others(self):
        for name in NAMES:
            for other in NAMES:
                if other != name:
                    with self.subTest(name, other=other):
                        self.assertNotIsInstance(made(name), getattr(errors, other))

    def test_the_base_is_none_of_the_twelve(self):
        for name in NAMES:
            with self.subTest(name):
                self.assertNotIsInstance(TapError("why"), getattr(errors, name))


class Attributes(unittest.TestCase):
    def assert_kept(self, error, attribute, value):
        kept = getattr(error, attribute)
        self.assertIs(kept.__class__, value.__class__)
        self.assertEqual(kept, value)

    def test_given_by_position(self):
        for name, attribute in ATTRIBUTES.items():
            for value in kinds():
                with self.subTest(name, value=value):
                    self.assert_kept(getattr(errors, name)(value), attribute, value)

    def test_given_by_name(self):
        for name, attribute in ATTRIBUTES.items():
            for value in kinds():
                with self.subTest(name, value=value):
                    self.assert_kept(getattr(errors, name)(**{attribute: value}), attribute, value)

    def test_kept_where_the_error_is_caught(self):
        for name, attribute in ATTRIBUTES.items():
            with self.subTest(name):
                with self.assertRaises(TapError) as caught:
                    raise getattr(errors, name)(7)
                self.assert_kept(caught.exception, attribute, 7)

    def test_each_has_its_own(self):
        for name, attribute in ATTRIBUTES.items():
            with self.subTest(name):
                one, other = getattr(errors, name)(1), getattr(errors, name)(2)
                self.assert_kept(one, attribute, 1)
                self.assert_kept(other, attribute, 2)

    def test_the_attribute_is_no_longer_changed_with_what_was_passed(self):
        for name, attribute in ATTRIBUTES.items():
            with self.subTest(name):
                inner, table = [1], {"a": [2]}
                value = [inner, (inner, table), table]
                error = getattr(errors, name)(value)
                inner.append(3)
                table["a"].append(4)
                table["b"] = 5
                value.append(6)
                self.assert_kept(error, attribute, [[1], ([1], {"a": [2]}), {"a": [2]}])

    def test_what_was_passed_is_not_changed(self):
        for name, attribute in ATTRIBUTES.items():
            for value, same in zip(kinds(), kinds()):
                with self.subTest(name, value=value):
                    getattr(errors, name)(value)
                    self.assertEqual(value, same)


class Messages(unittest.TestCase):
    def test_each_without_an_attribute_has_its_message(self):
        for name in PLAIN + ("TapError",):
            for message in ("", "why", "two words\nand a line", "0"):
                with self.subTest(name, message=message):
                    self.assertEqual(str(getattr(errors, name)(message)), message)

    def test_the_message_is_kept_where_the_error_is_caught(self):
        for name in PLAIN + ("TapError",):
            with self.subTest(name):
                with self.assertRaises(ValueError) as caught:
                    raise getattr(errors, name)("why not")
                self.assertEqual(str(caught.exception), "why not")


if __name__ == "__main__":
    unittest.main()
