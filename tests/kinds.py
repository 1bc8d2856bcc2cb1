"""Values of every kind that may be passed in the place of any other, and what is asked of all objects."""

import unittest

from undertap.errors import BadHouse
from undertap.houses import House
from undertap.rules import Rule

GREAT = 10 ** 999


def nested(make, depth):
    """0 within so many layers of what make makes."""
    value = 0
    for _ in range(depth):
        value = make(value)
    return value


def plain_rule():
    return Rule("end", 0, 0, 0, 0)


def plain_house():
    return House(plain_rule(), 1, 0, 1, False, (1, 1))


def kinds():
    """New values of every kind; none of them equals another one of another kind that stands here."""
    return [
        None, True, False,
        -GREAT, -1, 0, 1, 2, 3, 4, GREAT,
        "", " ", "0", "1", "end", "End", "front", "rank", "way", "still", "rule", "room", "True", "None", "end\n",
        [], [0], [1, 1], [1, 2], ["end"], ["end", 0, 0, 0, 0], [[]], [None],
        (), (0,), (1,), (1, 1), (1, 2), (1, 1, 1), ("end",), ("end", 0, 0, 0, 0), ((),), ([],),
        {}, {0: 0}, {1: 1}, {1: 1, 2: 2}, {"way": "end"}, {"end": 0}, {(0, 1): [0]},
        nested(lambda value: [value], 20), nested(lambda value: (value,), 20), nested(lambda value: {"a": value}, 20),
        plain_rule(), plain_house(), [plain_rule()], (plain_house(),), {"rule": plain_rule()},
    ]


def kinds_but(good):
    """The values of every kind that are none of the good ones, True and False being no numbers."""
    keys = [(value.__class__, value) for value in good]
    return [value for value in kinds() if not any(value.__class__ is kind and value == one for kind, one in keys)]


def not_houses():
    """Values of every kind but houses, and some that are near to one."""
    six = (plain_rule(), 1, 0, 1, False, (1, 1))
    return [value for value in kinds() if not isinstance(value, House)] + [six, list(six), [plain_house()]]


class ErrorTest(unittest.TestCase):
    """Tests of calls that raise an error."""

    def assert_error(self, error, attribute, value, work, *given, **named):
        with self.assertRaises(error) as caught:
            work(*given, **named)
        kept = getattr(caught.exception, attribute)
        self.assertEqual((kept.__class__, kept), (value.__class__, value))

    def assert_bad_house(self, work, *others):
        """That work, with these values behind it, refuses whatever is no house."""
        for value in not_houses():
            with self.subTest(work.__name__, value=value):
                self.assert_error(BadHouse, "part", "house", work, value, *others)


class ObjectTest(unittest.TestCase):
    """Tests of objects, which are equal to none of another kind and cannot be iterated over."""

    def assert_apart(self, one, other):
        self.assertFalse(one == other)
        self.assertFalse(other == one)
        self.assertTrue(one != other)
        self.assertTrue(other != one)

    def assert_not_iterable(self, thing):
        for over in (iter, list, tuple, sorted, dict, enumerate):
            with self.subTest(over), self.assertRaises(TypeError):
                over(thing)
        with self.assertRaises(TypeError):
            for _ in thing:
                pass
        with self.assertRaises(TypeError):
            _, *_ = thing
