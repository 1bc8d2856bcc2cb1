"""What promise [32] says of the form of standings, for undertap.ticks."""

import unittest

from tests.kinds import GREAT, ErrorTest, kinds, plain_house, plain_rule
from tests.samples import ALL, house_of, house_with, items_of, sampled_houses, some_course, ten_of
from undertap.ticks import first_standing, is_standing, tick_at

# A house with room for bounds of every kind, and a standing of its form that has all parts.
WIDE = house_of("end", 2, 1, 0, 2, 2, 1, 2, True, (1, 3))
FULL = (((1, False, 2), (0, True, 0)), (0, 1), 2, (2, 1, 0))


def replaced(thing, way, value):
    """The nested tuple with another value where the indexes of the way lead."""
    if not way:
        return value
    at = way[0]
    return thing[:at] + (replaced(thing[at], way[1:], value),) + thing[at + 1:]


def part_at(thing, way):
    for at in way:
        thing = thing[at]
    return thing


def ways_into(thing):
    """The ways to all tuples within a nested tuple, to itself too."""
    if isinstance(thing, tuple):
        yield ()
        for at, part in enumerate(thing):
            for way in ways_into(part):
                yield (at,) + way


class Standings(ErrorTest):
    def assert_form(self, house, thing, good):
        found = is_standing(house, thing)
        self.assertIs(found, good, (ten_of(house), thing))

    def assert_part(self, house, standing, way, good, bad):
        """That just the good ones of these values may stand there."""
        for value in good:
            self.assert_form(house, replaced(standing, way, value), True)
        for value in bad:
            self.assert_form(house, replaced(standing, way, value), False)

    def assert_numbers(self, house, standing, way, least, most):
        """That just the numbers from least to most may stand there."""
        bad = [least - 1, most + 1, least - 2, most + 2, GREAT, -GREAT, True, False, None, str(least), "", (), (least,),
               [least], {least: least}, plain_rule()]
        self.assert_part(house, standing, way, range(least, most + 1), bad)

    def test_a_full_one(self):
        self.assert_form(WIDE, FULL, True)
        self.assert_form(WIDE, ((), (), 0, ()), True)

    def test_what_stands_behind_courses(self):
        for number, house in enumerate(sampled_houses(1999)):
            standing = first_standing(house)
            self.assert_form(house, standing, True)
            for moment in some_course(house, 30, number):
                standing, _ = tick_at(house, standing, moment)
                self.assert_form(house, standing, True)

    def test_the_numbers(self):
        for way, least, most in (
            ((0, 0, 0), 0, 1), ((0, 1, 0), 0, 1), ((0, 0, 2), 0, 2), ((0, 1, 2), 0, 2), ((1, 0), 0, 1), ((1, 1), 0, 1),
            ((2,), 0, 2), ((3, 0), 0, 2), ((3, 1), 0, 1), ((3, 2), -1, 1),
        ):
            with self.subTest(way):
                self.assert_numbers(WIDE, FULL, way, least, most)

    def test_the_bools(self):
        for way in ((0, 0, 1), (0, 1, 1)):
            bad = [0, 1, -1, None, "", "True", (), (True,), [False], {}, plain_house()]
            self.assert_part(WIDE, FULL, way, [True, False], bad)

    def test_nothing_is_gone_where_nothing_can_go(self):
        for goes in (False, True):
            house = house_with(goes=goes)
            self.assert_part(house, (items_of(0, 1), (), 0, ()), (0, 0, 1), [False], [0, 1, None])
            self.assert_form(house, (((0, True, 0),), (), 0, ()), goes)
            self.assert_form(house, (((0, False, 0), (1, True, 0)), (), 0, ()), goes)

    def test_the_bounds_of_each_house(self):
        for number in (0, 1, 2, 3):
            self.assert_numbers(house_with(guard=number), (items_of(0), (), 0, ()), (0, 0, 2), 0, number)
            self.assert_numbers(house_with(still=number), ((), (), 0, ()), (2,), 0, number)
        for top in (0, 1, 2):
            self.assert_numbers(house_with(top=top), (items_of(0), (), 0, ()), (0, 0, 0), 0, top)
            self.assert_numbers(house_with(top=top), ((), (0,), 0, ()), (1, 0), 0, top)
        for lag in ALL["lag"]:
            self.assert_numbers(house_with(lag=lag), ((), (), 0, (0, 0, -1)), (3, 0), 0, lag[1] - 1)
        for room in (1, 2, 3, 4):
            self.assert_numbers(house_with(room=room), ((), (), 0, (0, 0, -1)), (3, 1), 0, room - 1)

    def test_bounds_hang_on_no_other_part(self):
        house = house_of("rank", 1, 3, 2, 2, 4, 0, 2, True, (2, 3))
        standing = (items_of(0, 0, 0), (0, 0), 1, (1, 2, 1))
        for way, least, most in (
            ((0, 2, 0), 0, 0), ((0, 2, 2), 0, 2), ((1, 1), 0, 0), ((2,), 0, 1), ((3, 0), 0, 2), ((3, 1), 0, 3),
            ((3, 2), -1, 2),
        ):
            with self.subTest(way):
                self.assert_numbers(house, standing, way, least, most)

    def test_how_many_are_shown(self):
        for room in (1, 2, 3, 4):
            for many in range(7):
                self.assert_form(house_with(room=room), (items_of(*[0] * many), (), 0, ()), many <= room)

    def test_how_many_wait(self):
        for many in (1, 2):
            for length in range(5):
                self.assert_form(house_with(many=many), ((), (0,) * length, 0, ()), length <= many)

    def test_a_spot_is_a_place_at_which_an_item_is_shown(self):
        house = house_with(room=4, goes=True)
        for many in range(5):
            shown = tuple((0, place == 1, 0) for place in range(many))
            self.assert_numbers(house, (shown, (), 0, (0, 3, -1)), (3, 2), -1, many - 1)

    def test_a_look_may_be_at_a_place_that_shows_nothing(self):
        for place in range(4):
            self.assert_form(house_with(room=4), (items_of(0), (), 0, (0, place, 0)), True)

    def test_lists_for_tuples(self):
        for standing in (FULL, ((), (), 0, ())):
            for way in ways_into(standing):
                part = part_at(standing, way)
                for other in (list(part), dict(enumerate(part)), str(part), None, 0, False):
                    self.assert_form(WIDE, replaced(standing, way, other), False)

    def test_parts_put_in(self):
        for way in ways_into(FULL):
            part = part_at(FULL, way)
            for at in range(len(part) + 1):
                for value in (0, -1, False, True, (), None, "", (0, False, 0), part):
                    self.assert_form(WIDE, replaced(FULL, way, part[:at] + (value,) + part[at:]), False)

    def test_parts_left_out(self):
        for way in ways_into(FULL):
            part = part_at(FULL, way)
            for at in range(len(part)):
                good = way in ((0,), (1,))
                self.assert_form(WIDE, replaced(FULL, way, part[:at] + part[at + 1:]), good)

    def test_values_of_every_kind(self):
        good = {(1,): ("()", "(0,)", "(1,)", "(1, 1)"), (3,): ("()", "(1, 1, 1)")}
        for value in kinds():
            self.assert_form(WIDE, value, False)
            for way in ways_into(FULL):
                self.assert_form(WIDE, replaced(FULL, way, value), repr(value) in good.get(way, ()))

    def test_the_form_hangs_on_the_house(self):
        self.assert_form(plain_house(), FULL, False)
        self.assert_form(house_of("end", 2, 1, 0, 2, 2, 1, 2, False, (1, 3)), FULL, False)

    def test_the_first(self):
        for still in (0, 1, 2, 3):
            for goes in (False, True):
                self.assertEqual(first_standing(house_with(still=still, goes=goes, guard=2)), ((), (), still, ()))

    def test_no_house(self):
        self.assert_bad_house(first_standing)
        for thing in (FULL, ((), (), 0, ()), None, [], "", plain_house()):
            self.assert_bad_house(is_standing, thing)


if __name__ == "__main__":
    unittest.main()
