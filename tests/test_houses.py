"""Promise [20], and what [3] says of it, for undertap.houses."""

import itertools
import unittest

from tests.kinds import GREAT, ObjectTest, kinds, kinds_but, plain_house, plain_rule
from undertap.errors import BadHouse
from undertap.houses import House
from undertap.rules import Rule

RULE = Rule("rank", 3, 1, 2, 0)
LAGS = [(1, 1), (1, 2), (1, 3), (2, 2), (2, 3), (3, 3)]
GOOD = {
    "rule": [RULE, plain_rule(), Rule("front", 0, 3, 1, 3)],
    "room": [1, 2, 3, 4],
    "top": [0, 1, 2],
    "many": [1, 2],
    "goes": [False, True],
    "lag": LAGS,
}
PARTS = tuple(GOOD)
FIRST = (RULE, 3, 2, 1, True, (1, 2))


def six_of(house):
    return (house.rule, house.room, house.top, house.many, house.goes, house.lag)


def with_item(place, value):
    """The six of FIRST, with another one at this place."""
    return FIRST[:place] + (value,) + FIRST[place + 1:]


def bad_numbers(part):
    least, most = GOOD[part][0], GOOD[part][-1]
    return [least - 1, most + 1, least - 2, most + 2, GREAT, -GREAT, True, False, "1", [1], (1,), {1: 1}]


def bad_lags():
    numbers = [None, True, False, -1, 0, 1, 2, 3, 4, GREAT, "1", [1], (1,), {}]
    pairs = [(one, other) for one in numbers for other in numbers]
    good = [repr(lag) for lag in LAGS]
    bad = [pair for pair in pairs if repr(pair) not in good]
    return bad + [(), (1,), (3,), (1, 1, 1), (1, 2, 3), (1, 2, 2, 3), ((1, 1),), ((1, 2), (1, 2)),
                  [1, 1], [1, 2], [], [1], [1, 2, 3], {1: 2}, {1: 1, 2: 2}, "12", "11", 1, 12, None, True]


def bad_of(part):
    """Values that are none for the parameter of this name."""
    near = {
        "rule": [None, "end", ("end", 0, 0, 0, 0), ["end", 0, 0, 0, 0], {"way": "end"}, [RULE], (RULE,), {"rule": RULE},
                 plain_house(), 0, True],
        "goes": [0, 1, None, "yes", "no", "", "True", [], [True], (), (True,), {}, -1, 2],
        "lag": bad_lags(),
    }
    return (near[part] if part in near else bad_numbers(part)) + kinds_but(GOOD[part])


class Making(unittest.TestCase):
    def assert_bad(self, part, *six, **named):
        with self.assertRaises(BadHouse) as caught:
            House(*six, **named)
        self.assertEqual(caught.exception.part, part)

    def test_each_good_house_has_its_six(self):
        for six in itertools.product(*GOOD.values()):
            with self.subTest(six):
                house = House(*six)
                self.assertEqual(six_of(house), six)
                self.assertEqual([value.__class__ for value in six_of(house)], [Rule, int, int, int, bool, tuple])
                self.assertEqual([value.__class__ for value in house.lag], [int, int])

    def test_each_good_value_by_its_name(self):
        for part in PARTS:
            for value in GOOD[part]:
                with self.subTest(part, value=value):
                    named = dict(zip(PARTS, FIRST), **{part: value})
                    self.assertEqual(getattr(House(**named), part), value)

    def test_all_six_by_name_in_any_order(self):
        for order in itertools.permutations(range(6)):
            with self.subTest(order):
                named = {PARTS[place]: FIRST[place] for place in order}
                self.assertEqual(six_of(House(**named)), FIRST)

    def test_some_by_position_and_the_others_by_name(self):
        for many in range(7):
            with self.subTest(many):
                named = {PARTS[place]: FIRST[place] for place in range(many, 6)}
                self.assertEqual(six_of(House(*FIRST[:many], **named)), FIRST)

    def test_one_bad_value_is_told_by_its_name(self):
        for place, part in enumerate(PARTS):
            for value in bad_of(part):
                with self.subTest(part, value=value):
                    six = with_item(place, value)
                    self.assert_bad(part, *six)
                    self.assert_bad(part, **dict(zip(PARTS, six)))

    def test_bools_are_no_numbers(self):
        for place in (1, 2, 3):
            for value in (True, False):
                with self.subTest(PARTS[place], value=value):
                    self.assert_bad(PARTS[place], *with_item(place, value))
        for lag in ((True, 1), (True, 2), (1, True), (True, True), (False, 1), (False, False)):
            with self.subTest(lag):
                self.assert_bad("lag", *with_item(5, lag))

    def test_numbers_are_no_bools(self):
        for value in (0, 1):
            with self.subTest(value):
                self.assert_bad("goes", *with_item(4, value))

    def test_a_lag_is_a_pair_that_does_not_fall(self):
        for lag in ([1, 1], [1, 2], (1,), (1, 1, 1), (2, 1), (3, 1), (3, 2), (0, 1), (1, 4), (4, 4), (0, 0)):
            with self.subTest(lag):
                self.assert_bad("lag", *with_item(5, lag))

    def test_the_first_of_several_bad_values_is_told(self):
        for bads in itertools.product((False, True), repeat=6):
            if any(bads):
                for wrong in (None, -1, 5, [], [1, 1]):
                    with self.subTest(bads, wrong=wrong):
                        six = [wrong if bad else value for bad, value in zip(bads, FIRST)]
                        named = dict(reversed(list(zip(PARTS, six))))
                        self.assert_bad(PARTS[bads.index(True)], *six)
                        self.assert_bad(PARTS[bads.index(True)], **named)

    def test_what_is_passed_is_not_changed(self):
        for place, part in enumerate(PARTS):
            for value, same in zip(bad_of(part), bad_of(part)):
                with self.subTest(part, value=value):
                    self.assert_bad(part, *with_item(place, value))
                    self.assertEqual(value, same)
        rule = Rule("front", 1, 2, 0, 3)
        House(rule, 1, 0, 1, False, (1, 1))
        self.assertEqual(rule, Rule("front", 1, 2, 0, 3))

    def test_a_house_keeps_its_rule_when_another_is_made_of_it(self):
        rule = Rule("front", 1, 2, 0, 3)
        house = House(rule, 1, 0, 1, False, (1, 1))
        rule.with_part("way", "end")
        house.rule.with_part("still", 0)
        self.assertEqual(house.rule, Rule("front", 1, 2, 0, 3))


class Likeness(ObjectTest):
    def test_equal_if_the_six_are(self):
        for six in itertools.product(*GOOD.values()):
            with self.subTest(six):
                self.assertTrue(House(*six) == House(*six))
                self.assertFalse(House(*six) != House(*six))

    def test_equal_with_a_rule_made_anew(self):
        for rule in GOOD["rule"]:
            with self.subTest(rule):
                anew = Rule(rule.way, rule.still, rule.hold, rule.pins, rule.guard)
                self.assertTrue(House(rule, *FIRST[1:]) == House(anew, *FIRST[1:]))
                self.assertFalse(House(rule, *FIRST[1:]) != House(anew, *FIRST[1:]))

    def test_equal_to_itself(self):
        house = House(*FIRST)
        self.assertTrue(house == house)
        self.assertFalse(house != house)

    def test_apart_if_one_of_the_six_is_another(self):
        for place, part in enumerate(PARTS):
            for one, other in itertools.combinations(GOOD[part], 2):
                with self.subTest(part, one=one, other=other):
                    self.assert_apart(House(*with_item(place, one)), House(*with_item(place, other)))

    def test_apart_if_one_part_of_the_rules_is_another(self):
        for part, value in (("way", "end"), ("still", 2), ("hold", 2), ("pins", 1), ("guard", 1)):
            with self.subTest(part):
                self.assert_apart(House(*FIRST), House(RULE.with_part(part, value), *FIRST[1:]))

    def test_apart_if_the_numbers_stand_elsewhere(self):
        for one, other in itertools.combinations(itertools.product((1, 2), repeat=3), 2):
            with self.subTest(one=one, other=other):
                self.assert_apart(House(RULE, *one, True, (1, 2)), House(RULE, *other, True, (1, 2)))

    def test_apart_from_values_of_other_kinds(self):
        house = House(*FIRST)
        others = [value for value in kinds() if not isinstance(value, House)]
        for other in others + [FIRST, list(FIRST), dict(zip(PARTS, FIRST)), (house,), [house], RULE]:
            with self.subTest(other):
                self.assert_apart(house, other)


class NotIterable(ObjectTest):
    def test_a_house_cannot_be_iterated_over(self):
        self.assert_not_iterable(House(*FIRST))


if __name__ == "__main__":
    unittest.main()
