"""Promise [10], and what [3] says of it, for undertap.rules."""

import itertools
import unittest

from tests.kinds import GREAT, ObjectTest, kinds, kinds_but, plain_house
from undertap.errors import BadRule
from undertap.rules import Rule

GOOD = {
    "way": ["end", "front", "rank"],
    "still": [0, 1, 2, 3],
    "hold": [0, 1, 2, 3],
    "pins": [0, 1, 2],
    "guard": [0, 1, 2, 3],
}
PARTS = tuple(GOOD)
FIRST = ("rank", 3, 1, 2, 0)


def five_of(rule):
    return (rule.way, rule.still, rule.hold, rule.pins, rule.guard)


def with_item(place, value):
    """The five of FIRST, with another one at this place."""
    return FIRST[:place] + (value,) + FIRST[place + 1:]


def bad_of(part):
    """Values that are none for the parameter of this name."""
    if part == "way":
        near = ["ends", "fron", "ranks", "END", "front ", " rank", "endfront", "e", "0"]
    else:
        near = [-1, GOOD[part][-1] + 1, -2, GOOD[part][-1] + 2, GREAT, -GREAT, True, False, "0", "1", [0], (0,), {0: 0}]
    return near + kinds_but(GOOD[part])


class Making(unittest.TestCase):
    def assert_bad(self, part, *five, **named):
        with self.assertRaises(BadRule) as caught:
            Rule(*five, **named)
        self.assertEqual(caught.exception.part, part)

    def test_each_good_rule_has_its_five(self):
        for five in itertools.product(*GOOD.values()):
            with self.subTest(five):
                rule = Rule(*five)
                self.assertEqual(five_of(rule), five)
                self.assertEqual([value.__class__ for value in five_of(rule)], [str, int, int, int, int])

    def test_each_good_value_by_its_name(self):
        for part in PARTS:
            for value in GOOD[part]:
                with self.subTest(part, value=value):
                    named = dict(zip(PARTS, FIRST), **{part: value})
                    self.assertEqual(getattr(Rule(**named), part), value)

    def test_all_five_by_name_in_any_order(self):
        for order in itertools.permutations(range(5)):
            with self.subTest(order):
                named = {PARTS[place]: FIRST[place] for place in order}
                self.assertEqual(five_of(Rule(**named)), FIRST)

    def test_some_by_position_and_the_others_by_name(self):
        for many in range(6):
            with self.subTest(many):
                named = {PARTS[place]: FIRST[place] for place in range(many, 5)}
                self.assertEqual(five_of(Rule(*FIRST[:many], **named)), FIRST)

    def test_one_bad_value_is_told_by_its_name(self):
        for place, part in enumerate(PARTS):
            for value in bad_of(part):
                with self.subTest(part, value=value):
                    five = with_item(place, value)
                    self.assert_bad(part, *five)
                    self.assert_bad(part, **dict(zip(PARTS, five)))

    def test_bools_are_no_numbers(self):
        for place in range(1, 5):
            for value in (True, False):
                with self.subTest(PARTS[place], value=value):
                    self.assert_bad(PARTS[place], *with_item(place, value))

    def test_the_first_of_several_bad_values_is_told(self):
        for bads in itertools.product((False, True), repeat=5):
            if any(bads):
                for wrong in (None, -1, 4, [], True):
                    with self.subTest(bads, wrong=wrong):
                        five = [wrong if bad else value for bad, value in zip(bads, FIRST)]
                        named = dict(reversed(list(zip(PARTS, five))))
                        self.assert_bad(PARTS[bads.index(True)], *five)
                        self.assert_bad(PARTS[bads.index(True)], **named)

    def test_what_is_passed_is_not_changed(self):
        for place, part in enumerate(PARTS):
            for value, same in zip(bad_of(part), bad_of(part)):
                with self.subTest(part, value=value):
                    self.assert_bad(part, *with_item(place, value))
                    self.assertEqual(value, same)


class WithPart(unittest.TestCase):
    def setUp(self):
        self.rule = Rule(*FIRST)

    def assert_bad(self, part, name, value):
        with self.assertRaises(BadRule) as caught:
            self.rule.with_part(name, value)
        self.assertEqual(caught.exception.part, part)
        self.assertEqual(five_of(self.rule), FIRST)

    def test_each_good_value_of_each_part(self):
        for place, part in enumerate(PARTS):
            for value in GOOD[part]:
                with self.subTest(part, value=value):
                    other = self.rule.with_part(part, value)
                    self.assertIsInstance(other, Rule)
                    self.assertEqual(five_of(other), with_item(place, value))
                    self.assertEqual(other, Rule(*with_item(place, value)))
                    self.assertEqual(five_of(self.rule), FIRST)

    def test_from_each_other_rule(self):
        for five in itertools.product(("end", "front"), (0, 2), (0, 3), (0, 1), (1, 3)):
            with self.subTest(five):
                self.assertEqual(five_of(Rule(*five).with_part("hold", 1)), five[:2] + (1,) + five[3:])

    def test_by_name(self):
        self.assertEqual(five_of(self.rule.with_part(part="pins", value=0)), with_item(3, 0))
        self.assertEqual(five_of(self.rule.with_part(value="end", part="way")), with_item(0, "end"))
        self.assertEqual(five_of(self.rule.with_part("guard", value=2)), with_item(4, 2))

    def test_again_and_again(self):
        rule = self.rule.with_part("way", "front").with_part("still", 0).with_part("way", "end")
        self.assertEqual(five_of(rule), ("end", 0) + FIRST[2:])

    def test_bad_values(self):
        for part in PARTS:
            for value in bad_of(part):
                with self.subTest(part, value=value):
                    self.assert_bad(part, part, value)

    def test_texts_that_are_no_names(self):
        for name in (
            "", " ", "Way", "ways", "wa", "way ", " way", "WAY", "part", "value", "end", "rule", "room", "self", "_way",
            "waystill", "with_part", "0", "None",
        ):
            with self.subTest(name):
                self.assert_bad(None, name, 0)

    def test_values_that_are_no_texts(self):
        for name in kinds() + [["way"], ("way",), {"way": 0}, {"still": 1}, ["still", 0]]:
            if not isinstance(name, str):
                with self.subTest(name):
                    self.assert_bad(None, name, 0)

    def test_the_name_is_judged_ahead_of_the_value(self):
        for name in ("", "stills", None, 1, ["still"]):
            for value in (-1, None, [], "none"):
                with self.subTest(name, value=value):
                    self.assert_bad(None, name, value)


class Likeness(ObjectTest):
    def test_equal_if_the_five_are(self):
        for five in itertools.product(*GOOD.values()):
            with self.subTest(five):
                self.assertTrue(Rule(*five) == Rule(*five))
                self.assertFalse(Rule(*five) != Rule(*five))

    def test_equal_to_itself(self):
        rule = Rule(*FIRST)
        self.assertTrue(rule == rule)
        self.assertFalse(rule != rule)

    def test_apart_if_one_of_the_five_is_another(self):
        for place, part in enumerate(PARTS):
            for one, other in itertools.combinations(GOOD[part], 2):
                with self.subTest(part, one=one, other=other):
                    self.assert_apart(Rule(*with_item(place, one)), Rule(*with_item(place, other)))

    def test_apart_if_the_numbers_stand_elsewhere(self):
        for one, other in itertools.combinations(sorted(set(itertools.permutations((0, 1, 2, 0)))), 2):
            with self.subTest(one=one, other=other):
                self.assert_apart(Rule("end", *one), Rule("end", *other))

    def test_apart_from_values_of_other_kinds(self):
        rule = Rule(*FIRST)
        others = [value for value in kinds() if not isinstance(value, Rule)]
        for other in others + [FIRST, list(FIRST), dict(zip(PARTS, FIRST)), (rule,), [rule], plain_house()]:
            with self.subTest(other):
                self.assert_apart(rule, other)


class NotIterable(ObjectTest):
    def test_a_rule_cannot_be_iterated_over(self):
        self.assert_not_iterable(Rule(*FIRST))


if __name__ == "__main__":
    unittest.main()
