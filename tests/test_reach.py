"""Promise [50], and what [2] and [3] say of it, for undertap.reach."""

import unittest

from tests.kinds import ErrorTest, kinds, not_houses
from tests.samples import (
    CROWDED, JUST_800, JUST_801, REST, come, house_of, house_with, sampled_houses, searched, small_houses, some_course,
    ten_of,
)
from undertap.courses import behind_of, is_course
from undertap.errors import BadHouse, BadStanding, TooMany
from undertap.reach import course_to, standings_of
from undertap.ticks import first_standing, is_standing, moments_at, tick_at

# The smallest house: what comes in it can be told by hand.
SMALL = house_with(room=1, top=0)
SMALL_STANDINGS = [((), (), 0, ()), (((0, False, 0),), (), 0, ()), (((0, False, 0),), (), 0, (0, 0, 0))]
# It shows two items at most, in no more than so many standings.
MIDDLE = house_of("front", 1, 1, 0, 1, 2, 1, 1, True, (1, 2))


class WhatComes(unittest.TestCase):
    def test_the_smallest_house(self):
        self.assertEqual(standings_of(SMALL), SMALL_STANDINGS)

    def test_a_house_in_which_ranks_wait(self):
        house = house_with(room=1, top=0, still=1, goes=True)
        shown, gone, look = ((0, False, 0),), ((0, True, 0),), (0, 0, 0)
        # Behind a drawing one item can come or go; then the list is drawn again.
        self.assertEqual(standings_of(house), [
            ((), (), 0, ()), ((), (), 1, ()), ((), (0,), 1, ()),
            (shown, (), 0, ()), (shown, (), 0, look), (shown, (), 1, ()), (shown, (), 1, look),
            (shown, (0,), 1, ()), (shown, (0,), 1, look),
            (gone, (), 1, ()), (gone, (), 1, look),
        ])

    def test_against_a_search(self):
        for house, far in small_houses(797):
            found = standings_of(house)
            self.assertEqual(found, sorted(far), ten_of(house))
            self.assertIs(found.__class__, list)

    def test_ascending_and_without_the_same_twice(self):
        for house, _ in small_houses(4001):
            found = standings_of(house)
            self.assertTrue(all(one < other for one, other in zip(found, found[1:])))

    def test_each_has_the_form_and_its_ticks_lead_to_others_that_come(self):
        for house, _ in small_houses(6007):
            found = standings_of(house)
            self.assertIn(first_standing(house), found)
            for standing in found:
                self.assertIs(is_standing(house, standing), True)
                for moment in moments_at(house, standing):
                    self.assertIn(tick_at(house, standing, moment)[0], found)

    def test_what_stands_behind_courses_comes(self):
        for number, (house, _) in enumerate(small_houses(6007)):
            course, found = some_course(house, 40, number), standings_of(house)
            for many in range(41):
                self.assertIn(behind_of(house, course[:many]), found)

    def test_kinds_of_what_is_given(self):
        self.assertEqual(repr(standings_of(SMALL)), repr(SMALL_STANDINGS))


class Courses(unittest.TestCase):
    def assert_shortest(self, house, standing, ticks):
        course = course_to(house, standing)
        self.assertIs(course.__class__, list)
        self.assertEqual(len(course), ticks, (ten_of(house), standing))
        self.assertIs(is_course(house, course), True)
        self.assertEqual(behind_of(house, course), standing)

    def test_to_each_standing_of_the_smallest_house(self):
        self.assertEqual(course_to(SMALL, SMALL_STANDINGS[0]), [])
        self.assertEqual(course_to(SMALL, SMALL_STANDINGS[1]), [come(0)])
        self.assertEqual(course_to(SMALL, SMALL_STANDINGS[2]), [come(0, ("look", 0))])

    def test_to_each_standing_of_a_house(self):
        for standing, ticks in searched(MIDDLE).items():
            self.assert_shortest(MIDDLE, standing, ticks)

    def test_to_some_standings_of_many_houses(self):
        for house, far in small_houses(1999):
            rows = list(far)
            for standing in {rows[0], rows[1], rows[len(rows) // 2], rows[-1]}:
                self.assert_shortest(house, standing, far[standing])

    def test_to_the_first(self):
        for house, _ in small_houses(9973):
            self.assertEqual(course_to(house, first_standing(house)), [])

    def test_to_one_that_never_comes(self):
        for standing in (
            ((), (0,), 0, ()), ((), (), 0, (0, 0, -1)), (((0, False, 0),), (0,), 0, (0, 0, 0)),
            (((0, False, 0),), (), 0, (0, 0, -1)),
        ):
            self.assertIs(is_standing(SMALL, standing), True)
            self.assertIsNone(course_to(SMALL, standing))

    def test_each_form_comes_or_has_no_course(self):
        house = house_with(room=1, top=0, still=1, guard=1, goes=True, lag=(1, 2))
        far = searched(house)
        rows = [()] + [((0, is_gone, stood),) for is_gone in (False, True) for stood in (0, 1)]
        for shown in rows:
            for waiting in ((), (0,)):
                for quiet in (0, 1):
                    for look in [()] + [(age, 0, spot) for age in (0, 1) for spot in range(-1, len(shown))]:
                        standing = (shown, waiting, quiet, look)
                        self.assertIs(is_standing(house, standing), True)
                        if standing in far:
                            self.assert_shortest(house, standing, far[standing])
                        else:
                            self.assertIsNone(course_to(house, standing))


class TheLimit(ErrorTest):
    def test_just_800_are_taken(self):
        for ten in JUST_800:
            house = house_of(*ten)
            with self.subTest(ten):
                found = standings_of(house)
                self.assertEqual(len(found), 800)
                self.assertEqual(found, sorted(searched(house)))
                self.assertEqual(behind_of(house, course_to(house, found[-1])), found[-1])
                self.assertEqual(course_to(house, first_standing(house)), [])

    def test_just_801_are_too_many(self):
        for ten in JUST_801:
            house = house_of(*ten)
            with self.subTest(ten):
                self.assertEqual(len(searched(house)), 801)
                self.assert_error(TooMany, "most", 800, standings_of, house)
                self.assert_error(TooMany, "most", 800, course_to, house, first_standing(house))

    def test_far_too_many(self):
        self.assertIsNone(searched(CROWDED, 800))
        self.assert_error(TooMany, "most", 800, standings_of, CROWDED)
        for course in ([], [REST], [come(0)], [come(0), come(1)]):
            self.assert_error(TooMany, "most", 800, course_to, CROWDED, behind_of(CROWDED, course))
        self.assert_error(TooMany, "most", 800, course_to, CROWDED, ((), (), 0, (2, 0, -1)))

    def test_just_the_houses_with_at_most_800(self):
        for house in sampled_houses(1999):
            few = searched(house, 800) is not None
            try:
                standings_of(house)
                self.assertTrue(few, ten_of(house))
            except TooMany:
                self.assertFalse(few, ten_of(house))


class Errors(ErrorTest):
    def bad_standings(self):
        first = first_standing(SMALL)
        return kinds() + [list(first), first[:3], first + ((),), ((), (), 1, ()), ((), (), False, ()), ([], (), 0, ()),
                          ((), (), 0, []), ((), (), 0, (0, 0, 0)), ((), (0, 0), 0, ()), (((0, True, 0),), (), 0, ()),
                          (((1, False, 0),), (), 0, ()), (((0, 0, 0),), (), 0, ()), (((False, False, 0),), (), 0, ())]

    def test_no_house(self):
        self.assert_bad_house(standings_of)
        for standing in (first_standing(SMALL), None):
            self.assert_bad_house(course_to, standing)

    def test_no_standing(self):
        for house in (SMALL, CROWDED):
            for standing in kinds() if house is CROWDED else self.bad_standings():
                with self.subTest(standing), self.assertRaises(BadStanding):
                    course_to(house, standing)

    def test_the_first_error_applies(self):
        for value in not_houses():
            self.assert_error(BadHouse, "part", "house", course_to, value, value)
        with self.assertRaises(BadStanding):
            course_to(CROWDED, None)


class Calls(unittest.TestCase):
    def test_by_name(self):
        self.assertEqual(standings_of(house=SMALL), SMALL_STANDINGS)
        self.assertEqual(course_to(standing=SMALL_STANDINGS[1], house=SMALL), [come(0)])
        self.assertEqual(course_to(SMALL, standing=SMALL_STANDINGS[1]), [come(0)])

    def test_what_is_returned_may_be_changed(self):
        standings_of(SMALL).clear()
        self.assertEqual(standings_of(SMALL), SMALL_STANDINGS)
        course_to(SMALL, SMALL_STANDINGS[1]).append(None)
        self.assertEqual(course_to(SMALL, SMALL_STANDINGS[1]), [come(0)])
        course_to(SMALL, SMALL_STANDINGS[0]).append(None)
        self.assertEqual(course_to(SMALL, SMALL_STANDINGS[0]), [])

    def test_equal_arguments_give_equal_results(self):
        rows = standings_of(MIDDLE)
        courses = [course_to(MIDDLE, standing) for standing in rows]
        for house, _ in small_houses(20011):
            course_to(house, standings_of(house)[-1])
        again = house_of(*ten_of(MIDDLE))
        self.assertEqual(standings_of(again), rows)
        self.assertEqual([course_to(again, standing) for standing in reversed(rows)], courses[::-1])


if __name__ == "__main__":
    unittest.main()
