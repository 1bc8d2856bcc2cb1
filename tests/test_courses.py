"""Promise [40], and what [3] and [4] say of it, for undertap.courses."""

import copy
import unittest

from tests.kinds import ErrorTest, kinds, plain_house
from tests.model import Model
from tests.samples import NONE, REST, TAP, come, go, house_of, house_with, look, sampled_houses, some_course, ten_of
from undertap.courses import behind_of, is_course, run_of
from undertap.errors import BadHouse, BadMoment
from undertap.ticks import first_standing, moments_at, tick_at

HOUSE = house_of("front", 0, 0, 0, 0, 2, 1, 1, True, (1, 2))
COURSE = [come(0, ("look", 0)), come(1), (("go", 0), ("tap",)), REST]
ROWS = [
    (((0, False),), (), ""),
    (((1, False), (0, False)), (), ""),
    (((0, False),), (), "right"),
    (((0, False),), (), ""),
]
# Values that are no course of HOUSE, each with the index of its first item that cannot come.
WRONG = (
    (0, [None]), (0, [TAP]), (0, [look(0)]), (0, [go(0)]), (0, [come(2)]), (0, [[("come", 0), NONE]]),
    (0, [REST + REST]),
    (0, [()]), (0, [NONE]), (0, [("none", "none")]), (0, [None, REST]), (0, [COURSE]), (0, [0]), (0, ["none"]),
    (0, [(("come", False), NONE)]), (0, [(["come", 0], NONE)]), (0, [("come", "none")]), (0, [plain_house()]),
    (1, [REST, None]), (1, [REST, TAP, None]), (1, [REST, TAP, REST]), (1, COURSE[:1] + [look(0)]),
    (1, COURSE[:1] + [(("go", False), NONE)]), (1, COURSE[:1] + [(("come", True), NONE)]),
    (2, COURSE[:2] + [REST, TAP]), (2, COURSE[:2] + [come(0)]), (2, COURSE[:2] + [TAP[0]] + COURSE[3:]),
    (3, COURSE[:3] + [TAP]), (3, COURSE[:3] + [go(1)]), (4, COURSE + [[]]), (4, COURSE + [TAP]),
    (4, COURSE + [(REST,)]),
    (4, COURSE + [look(1), None]),
)
NO_LISTS = (None, True, False, 0, 1, -1, "", "none; none", {}, {0: REST}, {REST: REST}, plain_house())


def no_lists():
    return [value for value in kinds() if not isinstance(value, (list, tuple))] + list(NO_LISTS)


def stepped(house, course):
    """The standing and the outcome behind each tick, by tick_at alone."""
    found, standing = [], first_standing(house)
    for moment in course:
        standing, outcome = tick_at(house, standing, moment)
        found.append((standing, outcome))
    return found


class Judging(unittest.TestCase):
    def assert_course(self, house, thing, good):
        self.assertIs(is_course(house, thing), good)

    def test_lists_and_tuples(self):
        for many in range(len(COURSE) + 1):
            self.assert_course(HOUSE, COURSE[:many], True)
            self.assert_course(HOUSE, tuple(COURSE[:many]), True)

    def test_no_ticks(self):
        for house in sampled_houses(9973):
            self.assert_course(house, [], True)
            self.assert_course(house, (), True)

    def test_wrong_items(self):
        for _, course in WRONG:
            with self.subTest(course):
                self.assert_course(HOUSE, course, False)
                self.assert_course(HOUSE, tuple(course), False)

    def test_no_lists(self):
        for value in no_lists():
            with self.subTest(value):
                self.assert_course(HOUSE, value, False)

    def test_values_of_every_kind(self):
        for value in kinds():
            with self.subTest(value):
                self.assert_course(HOUSE, value, value in ([], ()))
                self.assert_course(HOUSE, COURSE + [value], False)
                self.assert_course(HOUSE, [value] + COURSE, False)

    def test_a_moment_alone_is_no_course(self):
        for moment in COURSE:
            self.assert_course(HOUSE, moment, False)

    def test_one_moment_otherwise(self):
        for number, house in enumerate(sampled_houses(6007)):
            course = some_course(house, 8, number)
            for at, (standing, _) in enumerate([(first_standing(house), "")] + stepped(house, course[:-1])):
                can_come = moments_at(house, standing)
                for moment in (REST, TAP, come(0), come(1), come(2), go(0), go(1), look(0), look(1), look(2)):
                    other = course[:at] + [moment]
                    self.assert_course(house, other, moment in can_come)

    def test_it_hangs_on_the_house(self):
        self.assert_course(house_with(goes=True, lag=(1, 2), way="front"), COURSE, True)
        self.assert_course(house_with(goes=True, lag=(1, 1), way="front"), COURSE, False)
        self.assert_course(house_with(goes=False, lag=(1, 2), way="front"), COURSE, False)
        self.assert_course(house_with(goes=True, lag=(1, 2), way="front", top=0), COURSE, False)


class Running(unittest.TestCase):
    def test_rows(self):
        for many in range(len(COURSE) + 1):
            self.assertEqual(run_of(HOUSE, COURSE[:many]), ROWS[:many])
            self.assertEqual(run_of(HOUSE, tuple(COURSE[:many])), ROWS[:many])

    def test_behind(self):
        expected = [
            ((), (), 0, ()),
            (((0, False, 0),), (), 0, (0, 0, 0)),
            (((1, False, 0), (0, False, 0)), (), 0, (1, 0, 1)),
            (((0, False, 0),), (), 0, ()),
            (((0, False, 0),), (), 0, ()),
        ]
        for many in range(len(COURSE) + 1):
            self.assertEqual(behind_of(HOUSE, COURSE[:many]), expected[many])
            self.assertEqual(behind_of(HOUSE, tuple(COURSE[:many])), expected[many])

    def test_no_ticks(self):
        for house in sampled_houses(9973):
            for course in ([], ()):
                self.assertEqual(run_of(house, course), [])
                self.assertEqual(behind_of(house, course), first_standing(house))

    def test_what_waits_and_what_is_gone(self):
        house = house_with(still=3, many=2, goes=True)
        course = [come(0), come(1), (("go", 0), ("look", 0)), (("come", 0), ("tap",)), REST]
        self.assertEqual(run_of(house, course), [
            (((0, False),), (), ""),
            (((0, False),), (1,), ""),
            (((0, True),), (1,), ""),
            (((0, True),), (1, 0), "gone"),
            (((1, False), (0, False)), (), ""),
        ])

    def test_each_outcome(self):
        slow = house_with(goes=True, way="front", guard=1, lag=(1, 2), still=1)
        quick = house_with(goes=True, way="front", guard=1, lag=(1, 2), still=0)
        for house, course, outcome in (
            (slow, [come(0, ("look", 0)), TAP], "right"),
            (slow, [come(0, ("look", 0)), (("go", 0), ("tap",))], "gone"),
            (slow, [come(0, ("look", 0)), go(0), TAP], "empty"),
            (slow, [come(0, ("look", 0)), come(0), TAP], "back"),
            (quick, [come(0, ("look", 0)), come(0), TAP], "other"),
        ):
            with self.subTest(outcome):
                self.assertEqual([row[2] for row in run_of(house, course)], [""] * (len(course) - 1) + [outcome])

    def test_courses_of_sixty_ticks(self):
        for number, house in enumerate(sampled_houses(2003)):
            course, model = some_course(house, 60, number), Model(house)
            rows, behind = [], [model.standing()]
            for change, hand in course:
                outcome = model.tick(change, hand)
                rows.append((model.shown(), tuple(model.waiting), outcome))
                behind.append(model.standing())
            self.assertIs(is_course(house, course), True)
            self.assertEqual(run_of(house, course), rows, ten_of(house))
            self.assertEqual(run_of(house, tuple(course)), rows)
            for many in (0, 1, 30, 59, 60):
                self.assertEqual(behind_of(house, course[:many]), behind[many])

    def test_courses_of_a_few_ticks_more(self):
        course = some_course(HOUSE, 70, 1)
        self.assertIs(is_course(HOUSE, course), True)
        self.assertEqual(len(run_of(HOUSE, course)), 70)
        self.assertEqual(behind_of(HOUSE, course), stepped(HOUSE, course)[-1][0])

    def test_kinds_of_what_is_given(self):
        rows = run_of(HOUSE, COURSE)
        self.assertEqual(repr(rows), repr(ROWS))
        self.assertEqual(repr(behind_of(HOUSE, COURSE)), "(((0, False, 0),), (), 0, ())")


class Errors(ErrorTest):
    def test_no_house(self):
        for course in ([], COURSE, [None], None, ""):
            for work in (is_course, run_of, behind_of):
                self.assert_bad_house(work, course)

    def test_the_first_item_that_cannot_come(self):
        for at, course in WRONG:
            for work in (run_of, behind_of):
                for given in (course, tuple(course)):
                    with self.subTest(work.__name__, course=given):
                        self.assert_error(BadMoment, "at", at, work, HOUSE, given)

    def test_at_each_index_of_a_long_course(self):
        course = some_course(HOUSE, 60, 3)
        for at in range(61):
            wrong = course[:at] + [None] + course[at + 1:]
            for work in (run_of, behind_of):
                self.assert_error(BadMoment, "at", at, work, HOUSE, wrong)

    def test_no_lists(self):
        for value in no_lists():
            for work in (run_of, behind_of):
                with self.subTest(work.__name__, value=value):
                    self.assert_error(BadMoment, "at", None, work, HOUSE, value)

    def test_values_of_every_kind(self):
        for value in kinds():
            if isinstance(value, (list, tuple)) and len(value) > 0:
                for work in (run_of, behind_of):
                    self.assert_error(BadMoment, "at", 0, work, HOUSE, value)
            for work in (run_of, behind_of):
                self.assert_error(BadMoment, "at", 4, work, HOUSE, COURSE + [value])

    def test_the_first_error_applies(self):
        for work in (run_of, behind_of):
            self.assert_error(BadHouse, "part", "house", work, None, None)
            self.assert_error(BadHouse, "part", "house", work, None, [None])


class Calls(unittest.TestCase):
    def test_by_name(self):
        self.assertIs(is_course(thing=COURSE, house=HOUSE), True)
        self.assertIs(is_course(HOUSE, thing=None), False)
        self.assertEqual(run_of(course=COURSE, house=HOUSE), ROWS)
        self.assertEqual(behind_of(course=COURSE, house=HOUSE), (((0, False, 0),), (), 0, ()))

    def test_what_is_passed_stays_as_it_is(self):
        for course in [COURSE] + [list(wrong) for _, wrong in WRONG]:
            same = copy.deepcopy(course)
            for work in (is_course, run_of, behind_of):
                try:
                    work(HOUSE, course)
                except BadMoment:
                    pass
                self.assertEqual(course, same)

    def test_what_is_returned_may_be_changed(self):
        rows = run_of(HOUSE, COURSE)
        self.assertIs(rows.__class__, list)
        rows.append(None)
        rows[0] = None
        self.assertEqual(run_of(HOUSE, COURSE), ROWS)

    def test_later_changes_of_what_was_passed_have_no_effect(self):
        course = list(COURSE)
        rows, behind = run_of(HOUSE, course), behind_of(HOUSE, course)
        course.clear()
        self.assertEqual(rows, ROWS)
        self.assertEqual(behind, behind_of(HOUSE, COURSE))

    def test_equal_arguments_give_equal_results(self):
        first = run_of(HOUSE, COURSE)
        for number, house in enumerate(sampled_houses(9973)):
            run_of(house, some_course(house, 5, number))
        self.assertEqual(run_of(HOUSE, list(COURSE)), first)
        self.assertEqual(run_of(house_of("front", 0, 0, 0, 0, 2, 1, 1, True, (1, 2)), COURSE), first)


if __name__ == "__main__":
    unittest.main()
