"""Promise [110], and what [2] and [3] say of it, for undertap.screen."""

import contextlib
import itertools
import random
import unittest

from tests.kinds import GREAT, ErrorTest, ObjectTest, kinds, plain_house
from tests.samples import NONE, REST, TAP, come, go, house_of, house_with, look, sampled_houses, some_course, ten_of
from undertap.courses import behind_of, run_of
from undertap.errors import BadHouse, BadMoment, NothingDone, TapError
from undertap.screen import Screen
from undertap.ticks import first_standing, moments_at, tick_at

HOUSE = house_of("front", 0, 0, 0, 0, 2, 1, 1, True, (1, 2))
COURSE = [come(0, ("look", 0)), come(1), (("go", 0), ("tap",)), REST]
GUARDED = house_of("front", 1, 1, 1, 2, 3, 1, 2, True, (2, 3))


class Stop(Exception):
    """An error that is none of the package."""


def screen_of(house, course):
    """A screen that has done this course."""
    screen = Screen(house)
    for moment in course:
        screen.tick(*moment)
    return screen


def ahead_of(house, standing):
    """The outcomes that the tap of the open look can have, by a search of the test."""
    if standing[3] == ():
        return ()
    found, rows = set(), [standing]
    for one in rows:
        for moment in moments_at(house, one):
            behind, outcome = tick_at(house, one, moment)
            if moment[1] == ("tap",):
                found.add(outcome)
            elif behind not in rows:
                rows.append(behind)
    return tuple(sorted(found))


def told(screen):
    """All that a screen tells."""
    return (screen.house, screen.course, screen.standing, screen.shown, screen.outcomes_ahead())


def fresh(house, course):
    """What a screen must tell, by a fresh run of its ticks."""
    standing = behind_of(house, course)
    shown = list(run_of(house, course)[-1][0]) if course else []
    return (house, list(course), standing, shown, ahead_of(house, standing))


class ScreenTest(ErrorTest):
    def assert_told(self, screen, house, course):
        self.assertEqual(told(screen), fresh(house, course), (ten_of(house), course))

    def assert_refused(self, screen, change, hand):
        """That a tick is refused and the screen is then as before."""
        before = told(screen)
        self.assert_error(BadMoment, "at", None, screen.tick, change, hand)
        self.assertEqual(told(screen), before)

    def assert_nothing_done(self, screen):
        before = told(screen)
        with self.assertRaises(NothingDone):
            screen.undo()
        self.assertEqual(told(screen), before)


class Ticks(ScreenTest):
    def test_at_first(self):
        for house in sampled_houses(6007):
            screen = Screen(house)
            self.assert_told(screen, house, [])
            self.assertEqual((screen.course, screen.shown, screen.standing), ([], [], first_standing(house)))

    def test_by_hand(self):
        screen = Screen(HOUSE)
        self.assertEqual([screen.tick(*moment) for moment in COURSE], ["", "", "right", ""])
        self.assertEqual(screen.course, COURSE)
        self.assertEqual(screen.shown, [(0, False)])
        self.assertIsNone(screen.undo())
        self.assertIsNone(screen.undo())
        self.assertEqual(screen.course, COURSE[:2])
        self.assertEqual(screen.shown, [(1, False), (0, False)])
        self.assertEqual(screen.standing, (((1, False, 0), (0, False, 0)), (), 0, (1, 0, 1)))
        self.assertEqual(screen.outcomes_ahead(), ("other", "right"))
        self.assertEqual(screen.tick(("none",), ("tap",)), "other")

    def test_rows_of_ticks_undos_and_refused_ticks(self):
        for seed, house in enumerate(sampled_houses(2003)):
            source, screen, course = random.Random(seed), Screen(house), []
            for _ in range(40):
                deed = source.choice(("tick", "tick", "tick", "undo", "refused"))
                if deed == "tick":
                    moment = source.choice(moments_at(house, behind_of(house, course)))
                    outcome = screen.tick(*moment)
                    course = course + [moment]
                    self.assertEqual(outcome, run_of(house, course)[-1][2])
                elif deed == "refused":
                    can_come = moments_at(house, behind_of(house, course))
                    moment = source.choice([REST, TAP, look(0), look(1), come(0), go(0), go(3), come(2, ("tap",))])
                    if moment not in can_come:
                        self.assert_refused(screen, *moment)
                elif course:
                    self.assertIsNone(screen.undo())
                    course = course[:-1]
                else:
                    self.assert_nothing_done(screen)
                self.assertEqual(screen.standing, behind_of(house, course))
                self.assertEqual(screen.course, course)
            self.assert_told(screen, house, course)

    def test_each_moment_that_can_come(self):
        for seed, house in enumerate(sampled_houses(9973)):
            course = some_course(house, 7, seed)
            screen = screen_of(house, course)
            for moment in moments_at(house, behind_of(house, course)):
                outcome = screen.tick(*moment)
                self.assertEqual(outcome, tick_at(house, behind_of(house, course), moment)[1])
                self.assert_told(screen, house, course + [moment])
                screen.undo()
            self.assert_told(screen, house, course)

    def test_sixty_ticks_all_taken_back(self):
        for seed, house in enumerate([HOUSE, GUARDED] + sampled_houses(30011)):
            screen, course = Screen(house), some_course(house, 60, seed)
            for many, moment in enumerate(course):
                self.assertEqual(screen.tick(*moment), run_of(house, course[:many + 1])[-1][2])
            self.assert_told(screen, house, course)
            for many in range(59, -1, -1):
                self.assertIsNone(screen.undo())
                self.assert_told(screen, house, course[:many])
            self.assert_nothing_done(screen)
            self.assert_nothing_done(screen)
            self.assertEqual(screen, Screen(house))

    def test_moments_that_cannot_come_now(self):
        for course, moments in (
            ([], [TAP, look(0), go(0), come(2), come(0, ("look", 1)), come(0, ("tap",)), come(-1), come(GREAT)]),
            ([come(0, ("look", 0))], [look(0), come(1, ("look", 0)), go(1), look(-1)]),
            # The tap must come two ticks behind the look.
            ([come(0, ("look", 0)), REST], [REST, come(0), go(0), look(0)]),
            ([come(0), go(0)], [look(0), go(0), TAP]),
            (COURSE, [TAP, look(1), go(1), go(-1), come(0, ("look", 2))]),
        ):
            screen = screen_of(HOUSE, course)
            for moment in moments:
                with self.subTest(course, moment=moment):
                    self.assert_refused(screen, *moment)
        screen = screen_of(GUARDED, [come(0, ("look", 0))])
        for moment in (TAP, come(1, ("tap",)), look(0)):
            self.assert_refused(screen, *moment)
        screen.tick(*REST)
        self.assertEqual(screen.tick(*TAP), "right")

    def test_values_that_are_no_moments(self):
        for course in ([], COURSE[:1], COURSE[:3]):
            screen = screen_of(HOUSE, course)
            near = ["none", "tap", ["none"], ["come", 0], ("come", False), ("come", True), ("come", "0"), ("come",),
                    ("come", 0, 0), ("look", True), ("look", False), ["look", 0], ["tap"], ("tap", 0), ("go", False),
                    (), ("none", "none"), NONE + NONE, REST, "come 0", ("Come", 0), plain_house()]
            for value in near + kinds():
                with self.subTest(course, value=value):
                    self.assert_refused(screen, value, NONE)
                    self.assert_refused(screen, NONE, value)
                    self.assert_refused(screen, value, value)
            self.assert_refused(screen, ("tap",), NONE)
            self.assert_refused(screen, ("look", 0), NONE)
            self.assert_refused(screen, NONE, ("come", 0))
            self.assert_told(screen, HOUSE, course)


class Ahead(ScreenTest):
    def test_without_a_look(self):
        for course in ([], [come(0)], COURSE[:3], COURSE):
            self.assertEqual(screen_of(HOUSE, course).outcomes_ahead(), ())

    def test_against_a_search(self):
        found = set()
        for seed, house in enumerate(sampled_houses(1201)):
            screen = Screen(house)
            for moment in some_course(house, 14, seed):
                screen.tick(*moment)
                if screen.standing[3]:
                    ahead = screen.outcomes_ahead()
                    self.assertEqual(ahead, ahead_of(house, screen.standing), (ten_of(house), screen.course))
                    found.update(ahead)
        self.assertEqual(found, {"back", "empty", "gone", "other", "right"})

    def test_by_hand(self):
        for parts, ahead in (
            ({}, ("right",)),
            ({"way": "front"}, ("other", "right")),
            ({"way": "front", "hold": 1}, ("right",)),
            ({"way": "front", "guard": 1}, ("back", "right")),
            ({"guard": 2}, ("back",)),
            ({"goes": True}, ("empty", "right")),
            ({"goes": True, "lag": (1, 2)}, ("empty", "other", "right")),
            ({"goes": True, "hold": 1}, ("gone", "right")),
            ({"way": "front", "goes": True, "still": 1, "lag": (1, 3)}, ("empty", "gone", "other", "right")),
        ):
            with self.subTest(parts):
                screen = screen_of(house_with(**parts), [come(0, ("look", 0))])
                self.assertEqual(screen.outcomes_ahead(), ahead)

    def test_nothing_is_changed(self):
        screen = screen_of(GUARDED, [come(0, ("look", 0))])
        for _ in range(3):
            self.assertEqual(screen.outcomes_ahead(), ahead_of(GUARDED, screen.standing))
            self.assertEqual(screen.course, [come(0, ("look", 0))])
            self.assertIs(screen.outcomes_ahead().__class__, tuple)


class Blocks(ScreenTest):
    def setUp(self):
        self.screen = screen_of(HOUSE, COURSE[:2])

    def assert_done(self, many, *more):
        """That the screen has done so many ticks of the course, and then these."""
        self.assert_told(self.screen, HOUSE, COURSE[:many] + list(more))

    @contextlib.contextmanager
    def left_by(self, error):
        """That this very error goes on."""
        with self.assertRaises(error.__class__) as caught:
            yield
        self.assertIs(caught.exception, error)

    def test_the_screen_is_given(self):
        with self.screen as same:
            self.assertIs(same, self.screen)
        self.assert_done(2)

    def test_left_without_an_error(self):
        with self.screen as same:
            same.tick(*COURSE[2])
            self.screen.tick(*COURSE[3])
        self.assert_done(4)
        with self.screen:
            self.screen.undo()
            self.screen.undo()
            self.screen.undo()
        self.assert_done(1)

    def test_left_by_return_break_and_continue(self):
        def work():
            with self.screen:
                self.screen.tick(*COURSE[2])
                return "done"
        self.assertEqual(work(), "done")
        self.assert_done(3)
        for _ in (1, 2):
            with self.screen:
                self.screen.undo()
                continue
        self.assert_done(1)
        while True:
            with self.screen:
                self.screen.tick(*COURSE[1])
                break
        self.assert_done(2)

    def test_left_by_errors_of_all_kinds(self):
        for error in (Stop(), ValueError("x"), NothingDone("x"), BadMoment(3), TapError("x"), KeyboardInterrupt(),
                      StopIteration(), GeneratorExit(), SystemExit(0), AssertionError()):
            with self.left_by(error), self.screen:
                self.screen.tick(*COURSE[2])
                raise error
            self.assert_done(2)

    def test_left_by_errors_of_the_screen(self):
        with self.assertRaises(BadMoment), self.screen:
            self.screen.tick(*COURSE[2])
            self.screen.tick(*TAP)
        self.assert_done(2)
        with self.assertRaises(NothingDone), self.screen:
            for _ in range(3):
                self.screen.undo()
        self.assert_done(2)

    def test_errors_that_are_caught_within(self):
        with self.screen:
            self.screen.tick(*COURSE[2])
            with self.assertRaises(BadMoment):
                self.screen.tick(*TAP)
            self.screen.tick(*COURSE[3])
        self.assert_done(4)

    def test_undos_behind_the_beginning(self):
        error = Stop()
        with self.left_by(error), self.screen:
            self.screen.tick(*COURSE[2])
            for _ in range(3):
                self.screen.undo()
            self.assert_nothing_done(self.screen)
            self.screen.tick(*come(1))
            raise error
        self.assert_done(2)

    def test_blocks_within_blocks(self):
        error = Stop()
        with self.screen as outer:
            outer.tick(*COURSE[2])
            with self.left_by(error), outer as inner:
                self.assertIs(inner, self.screen)
                inner.tick(*COURSE[3])
                inner.tick(*REST)
                raise error
            self.assert_done(3)
            outer.tick(*COURSE[3])
        self.assert_done(4)

    def test_an_outer_block_takes_back_what_an_inner_one_kept(self):
        error = Stop()
        with self.left_by(error), self.screen:
            self.screen.undo()
            with self.screen:
                self.screen.undo()
                self.screen.tick(*REST)
            self.assert_told(self.screen, HOUSE, [REST])
            raise error
        self.assert_done(2)

    def test_an_error_through_both(self):
        error = Stop()
        with self.left_by(error), self.screen:
            self.screen.tick(*COURSE[2])
            with self.screen:
                self.screen.undo()
                self.screen.undo()
                raise error
        self.assert_done(2)

    def test_an_inner_block_behind_an_undo_of_the_outer_beginning(self):
        error = Stop()
        with self.screen:
            self.screen.undo()
            with self.left_by(error), self.screen:
                self.screen.undo()
                self.assert_nothing_done(self.screen)
                self.screen.tick(*come(1))
                self.screen.tick(*come(1))
                raise error
            self.assert_done(1)
        self.assert_done(1)

    def test_one_behind_the_other(self):
        with self.screen:
            self.screen.tick(*COURSE[2])
        error = Stop()
        with self.left_by(error), self.screen:
            self.screen.tick(*COURSE[3])
            raise error
        self.assert_done(3)
        with self.screen:
            self.screen.undo()
        self.assert_done(2)

    def test_two_screens(self):
        other, error = screen_of(HOUSE, COURSE[:1]), Stop()
        with self.screen, self.left_by(error), other:
            self.screen.tick(*COURSE[2])
            other.tick(*COURSE[1])
            raise error
        self.assert_done(3)
        self.assert_told(other, HOUSE, COURSE[:1])

    def test_rows_of_deeds_in_nested_blocks(self):
        for seed in range(40):
            source, screen = random.Random(seed), Screen(GUARDED)
            course = self.some_deeds(source, screen, [], 4)
            self.assert_told(screen, GUARDED, course)

    def some_deeds(self, source, screen, course, depth):
        """Does something within blocks nested so deep, and tells the course that must stand."""
        for _ in range(4):
            deed = source.choice(("tick", "tick", "undo", "block", "error"))
            if deed == "tick":
                moment = source.choice(moments_at(GUARDED, screen.standing))
                screen.tick(*moment)
                course = course + [moment]
            elif deed == "undo" and course:
                screen.undo()
                course = course[:-1]
            elif deed == "block" and depth:
                with screen:
                    course = self.some_deeds(source, screen, course, depth - 1)
            elif deed == "error" and depth:
                with self.assertRaises(Stop), screen:
                    self.some_deeds(source, screen, course, depth - 1)
                    raise Stop
            self.assertEqual(screen.course, course)
        return course


class Tried(ScreenTest):
    def test_what_work_returns(self):
        screen = screen_of(HOUSE, COURSE[:1])
        for value in kinds():
            self.assertEqual(screen.tried(lambda same, value=value: value), value)
        self.assertIs(screen.tried(lambda same: same), screen)
        self.assertEqual(screen.tried(lambda same: same.tick(*TAP)), "right")
        self.assert_told(screen, HOUSE, [COURSE[0], TAP])
        self.assertIsNone(screen.tried(Screen.undo))
        self.assert_told(screen, HOUSE, COURSE[:1])

    def test_work_that_raises_an_error(self):
        screen = screen_of(HOUSE, COURSE[:2])
        for error in (Stop(), ValueError(), BadMoment(0), KeyboardInterrupt()):
            def work(same, error=error):
                same.undo()
                same.undo()
                same.tick(*REST)
                raise error
            with self.assertRaises(error.__class__) as caught:
                screen.tried(work)
            self.assertIs(caught.exception, error)
            self.assert_told(screen, HOUSE, COURSE[:2])
        self.assert_error(BadMoment, "at", None, screen.tried, lambda same: [same.tick(*move) for move in (REST, TAP)])
        self.assert_told(screen, HOUSE, COURSE[:2])

    def test_within_each_other(self):
        screen = Screen(HOUSE)

        def inner(same):
            same.tick(*COURSE[1])
            raise Stop

        def outer(same):
            same.tick(*COURSE[0])
            with self.assertRaises(Stop):
                same.tried(inner)
            return same.course

        self.assertEqual(screen.tried(outer), COURSE[:1])
        self.assert_told(screen, HOUSE, COURSE[:1])


class Copies(ScreenTest, ObjectTest):
    def test_they_go_their_own_way(self):
        screen = screen_of(HOUSE, COURSE[:2])
        other = screen.copy()
        self.assertIsInstance(other, Screen)
        self.assertIsNot(other, screen)
        self.assertTrue(other == screen)
        self.assert_told(other, HOUSE, COURSE[:2])
        other.tick(*COURSE[2])
        self.assert_told(screen, HOUSE, COURSE[:2])
        screen.undo()
        self.assert_told(other, HOUSE, COURSE[:3])
        self.assert_told(screen, HOUSE, COURSE[:1])
        self.assert_apart(screen, other)

    def test_of_an_empty_screen(self):
        other = Screen(HOUSE).copy()
        self.assert_told(other, HOUSE, [])
        self.assert_nothing_done(other)

    def test_made_within_a_block(self):
        screen, copies = screen_of(HOUSE, COURSE[:1]), []
        with self.assertRaises(Stop), screen:
            screen.tick(*COURSE[1])
            copies.append(screen.copy())
            screen.tick(*COURSE[2])
            raise Stop
        self.assert_told(screen, HOUSE, COURSE[:1])
        self.assert_told(copies[0], HOUSE, COURSE[:2])
        with self.assertRaises(Stop), copies[0]:
            copies[0].undo()
            raise Stop
        self.assert_told(copies[0], HOUSE, COURSE[:2])

    def test_a_copy_is_in_no_block_of_the_other(self):
        screen = screen_of(HOUSE, COURSE[:1])
        with screen:
            other = screen.copy()
            with self.assertRaises(Stop), other:
                other.tick(*COURSE[1])
                screen.tick(*COURSE[1])
                screen.tick(*COURSE[2])
                raise Stop
            self.assert_told(other, HOUSE, COURSE[:1])
            self.assert_told(screen, HOUSE, COURSE[:3])
        self.assert_told(screen, HOUSE, COURSE[:3])

    def test_of_a_copy(self):
        first = screen_of(HOUSE, COURSE)
        second = first.copy()
        third = second.copy()
        second.undo()
        self.assertTrue(first == third)
        self.assert_told(third, HOUSE, COURSE)


class Likeness(ScreenTest, ObjectTest):
    def test_equal_if_houses_and_courses_are(self):
        for many in range(5):
            one, other = screen_of(HOUSE, COURSE[:many]), screen_of(house_of(*ten_of(HOUSE)), COURSE[:many])
            self.assertTrue(one == other)
            self.assertFalse(one != other)
            self.assertTrue(one == one)
            other.tick(*moments_at(HOUSE, other.standing)[0])
            self.assert_apart(one, other)
            other.undo()
            self.assertTrue(one == other)

    def test_whatever_was_taken_back_or_refused(self):
        one, other = Screen(HOUSE), Screen(HOUSE)
        one.tick(*REST)
        one.undo()
        self.assert_refused(one, *TAP)
        self.assertTrue(one == other)
        with one:
            self.assertTrue(one == other)

    def test_apart_if_the_houses_are(self):
        parts = {"way": "rank", "still": 1, "hold": 1, "pins": 1, "guard": 1, "room": 3, "top": 2, "many": 2,
                 "goes": False, "lag": (1, 1)}
        ten = dict(zip(("way", "still", "hold", "pins", "guard", "room", "top", "many", "goes", "lag"), ten_of(HOUSE)))
        for part, value in parts.items():
            house = house_of(**{**ten, part: value})
            for course in ([], [REST]):
                self.assert_apart(screen_of(HOUSE, course), screen_of(house, course))

    def test_apart_if_the_courses_are(self):
        # The standings are the same.
        courses = ([], [REST], [REST, REST], [come(0)], [come(0), REST], [REST, come(0)])
        for one, other in itertools.combinations(courses, 2):
            self.assert_apart(screen_of(HOUSE, one), screen_of(HOUSE, other))

    def test_apart_from_values_of_other_kinds(self):
        screen = Screen(HOUSE)
        for other in kinds() + [HOUSE, [], COURSE, first_standing(HOUSE), (HOUSE, []), [screen], (screen,)]:
            with self.subTest(other):
                self.assert_apart(screen, other)

    def test_a_screen_cannot_be_iterated_over(self):
        for course in ([], COURSE):
            self.assert_not_iterable(screen_of(HOUSE, course))


class Calls(ScreenTest):
    def test_no_house(self):
        self.assert_bad_house(Screen)

    def test_by_name(self):
        screen = Screen(house=HOUSE)
        self.assertEqual(screen.tick(hand=("look", 0), change=("come", 0)), "")
        self.assertEqual(screen.tick(("none",), hand=("tap",)), "right")
        self.assertEqual(screen.tried(work=lambda same: same.course), [COURSE[0], TAP])
        self.assert_error(BadMoment, "at", None, lambda: screen.tick(hand=NONE, change=None))
        self.assert_error(BadHouse, "part", "house", lambda: Screen(house=None))

    def test_what_is_returned_may_be_changed(self):
        screen = screen_of(HOUSE, COURSE[:2])
        screen.course.clear()
        screen.course.append(None)
        screen.shown.clear()
        screen.shown.append((0, True))
        self.assert_told(screen, HOUSE, COURSE[:2])
        self.assertEqual((screen.course.__class__, screen.shown.__class__), (list, list))
        self.assertEqual({pair.__class__ for pair in screen.shown}, {tuple})
        kept = screen.course
        screen.tick(*COURSE[2])
        self.assertEqual(kept, COURSE[:2])

    def test_properties_cannot_be_set(self):
        screen = screen_of(HOUSE, COURSE[:2])
        for name in ("house", "course", "standing", "shown"):
            with self.assertRaises(AttributeError):
                setattr(screen, name, None)
        self.assert_told(screen, HOUSE, COURSE[:2])

    def test_kinds_of_what_is_given(self):
        screen = screen_of(HOUSE, COURSE[:3])
        self.assertEqual(repr(screen.course), repr(COURSE[:3]))
        self.assertEqual(repr(screen.shown), "[(0, False)]")
        self.assertEqual(repr(screen.standing), "(((0, False, 0),), (), 0, ())")


if __name__ == "__main__":
    unittest.main()
