"""Promises [60] and [61], and what [2], [3] and [4] say of them, for undertap.wishes."""

import copy
import itertools
import unittest

from tests.kinds import GREAT, ErrorTest, kinds, not_houses, plain_house
from tests.samples import (
    ALL, CROWDED, JUST_800, JUST_801, NONE, REST, TAP, WIDE, closed_of, come, forms_of, go, house_of, house_with,
    led_to, look, sampled_houses, searched, small_houses, some_course, ten_of,
)
from undertap.courses import is_course, run_of
from undertap.errors import BadHouse, BadWish, TooMany
from undertap.ticks import first_standing, is_standing, moments_at, tick_at
from undertap.wishes import breaker_of, is_paper, paper_of, wish_holds

WISHES = ("back", "empty", "gone", "other")
FREE = house_with(way="front", top=0)
HELD = house_with(way="front", top=0, hold=1)
GUARDED = house_with(way="front", top=0, guard=1)
OPEN_WITH_TAP = [come(0, ("look", 0)), come(0, ("tap",))]


def no_wishes():
    """Values that are no wish."""
    return kinds() + ["right", "Back", "backs", "bac", "back ", " other", "OTHER", "backempty", "wait", "none", b"back",
                      ["back"], ("back",), {"back": "back"}, ["other", "gone"], GREAT]


def broken_at(house, far):
    """The least number of ticks of a course that ends with a tap of each outcome, by what comes alone."""
    least = {}
    for standing, ticks in far.items():
        for moment in moments_at(house, standing):
            outcome = tick_at(house, standing, moment)[1]
            least[outcome] = min(ticks + 1, least.get(outcome, ticks + 1))
    return least


def judged_houses(stride, **parts):
    """Houses in which at most 800 standings come, each with these and how soon each outcome can be."""
    for house, far in small_houses(stride, **parts):
        yield house, list(far), broken_at(house, far)


class Wishes(unittest.TestCase):
    def assert_breaker(self, house, wish, ticks):
        """That no shorter course than one of so many ticks breaks the wish; None if it holds."""
        self.assertIs(wish_holds(house, wish), ticks is None, (ten_of(house), wish))
        breaker = breaker_of(house, wish)
        if ticks is None:
            self.assertIsNone(breaker)
            return
        self.assertIs(breaker.__class__, list)
        self.assertEqual(len(breaker), ticks, (ten_of(house), wish))
        self.assertIs(is_course(house, breaker), True)
        self.assertEqual(breaker[-1][1], ("tap",))
        self.assertEqual(run_of(house, breaker)[-1][2], wish)

    def test_the_houses_of_the_example(self):
        for house, expected in (
            (FREE, {"back": None, "empty": None, "gone": None, "other": 2}),
            (HELD, {"back": None, "empty": None, "gone": None, "other": None}),
            (GUARDED, {"back": 2, "empty": None, "gone": None, "other": None}),
        ):
            for wish in WISHES:
                self.assert_breaker(house, wish, expected[wish])
        self.assertEqual(breaker_of(FREE, "other"), OPEN_WITH_TAP)
        self.assertEqual(breaker_of(GUARDED, "back"), OPEN_WITH_TAP)

    def test_each_wish_by_hand(self):
        for parts, expected in (
            # Nothing moves: all is put in behind.
            ({}, {}),
            # An item that goes is taken away at once.
            ({"goes": True}, {"empty": 2, "other": 3}),
            ({"goes": True, "room": 1}, {"empty": 2}),
            # It is shown still, while the list is held.
            ({"goes": True, "hold": 1}, {"gone": 2}),
            ({"goes": True, "hold": 2, "lag": (2, 2)}, {"gone": 3}),
            ({"goes": True, "still": 1, "room": 1}, {"gone": 2, "empty": 3, "other": 3}),
            ({"way": "front"}, {"other": 2}),
            ({"way": "front", "room": 1}, {"other": 2}),
            ({"way": "front", "pins": 1, "room": 1}, {}),
            ({"way": "front", "pins": 1}, {"other": 3}),
            ({"way": "front", "pins": 2}, {}),
            ({"way": "rank", "top": 0}, {}),
            ({"way": "rank"}, {"other": 2}),
            ({"way": "front", "still": 1}, {"other": 3}),
            ({"way": "front", "still": 3}, {"other": 5}),
            ({"way": "front", "lag": (3, 3)}, {"other": 4}),
            ({"way": "front", "hold": 1, "lag": (2, 2)}, {"other": 3}),
            ({"way": "front", "hold": 1, "lag": (1, 2)}, {"other": 3}),
            ({"way": "front", "guard": 1, "lag": (2, 2)}, {"back": 3, "other": 3}),
            ({"way": "front", "guard": 2, "lag": (2, 2)}, {"back": 3}),
            ({"guard": 1}, {}),
            ({"guard": 2}, {"back": 2}),
            ({"guard": 3, "lag": (2, 2)}, {"back": 3}),
        ):
            for wish in WISHES:
                with self.subTest(parts, wish=wish):
                    self.assert_breaker(house_with(**parts), wish, expected.get(wish))

    def test_against_a_search(self):
        for house, _, least in judged_houses(1511):
            for wish in WISHES:
                self.assert_breaker(house, wish, least.get(wish))

    def test_just_800_standings(self):
        for ten in JUST_800:
            house = house_of(*ten)
            least = broken_at(house, searched(house))
            for wish in WISHES:
                self.assert_breaker(house, wish, least.get(wish))


class Facts(unittest.TestCase):
    def assert_hold(self, house, wishes):
        for wish in wishes:
            self.assertIs(wish_holds(house, wish), True, (ten_of(house), wish))
            self.assertIsNone(breaker_of(house, wish))

    def test_a_guard_as_long_as_the_lag(self):
        for lag in ALL["lag"]:
            for guard in range(lag[1], 4):
                for house, _, _ in judged_houses(601, lag=lag, guard=guard):
                    self.assert_hold(house, ["other"])

    def test_a_hold_as_long_as_the_lag(self):
        for lag in ALL["lag"]:
            for hold in range(lag[1], 4):
                for house, _, _ in judged_houses(601, lag=lag, hold=hold):
                    self.assert_hold(house, ["other", "empty"])

    def test_where_all_is_put_in_behind_and_nothing_can_go(self):
        for house, _, _ in judged_houses(401, way="end", goes=False):
            self.assert_hold(house, ["other", "empty", "gone"])

    def test_nothing_is_let_go_by_without_a_guard(self):
        for house, _, _ in judged_houses(499, guard=0):
            self.assert_hold(house, ["back"])

    def test_less_than_the_lag_may_not_be_enough(self):
        self.assertIs(wish_holds(house_with(way="front", guard=2, lag=(3, 3)), "other"), False)
        self.assertIs(wish_holds(house_with(way="front", hold=2, lag=(1, 3)), "other"), False)
        self.assertIs(wish_holds(house_with(goes=True, hold=2, lag=(3, 3)), "empty"), False)
        self.assertIs(wish_holds(house_with(goes=True, guard=3, lag=(1, 1)), "empty"), False)

    def test_there_is_a_paper_of_the_first_kind_exactly_if_the_wish_holds(self):
        for house, standings, least in judged_houses(2503):
            for wish in WISHES:
                holds = wish not in least
                self.assertIs(wish_holds(house, wish), holds)
                self.assertEqual(paper_of(house, wish)[0], "never" if holds else "course")
                self.assertIs(is_paper(house, wish, ("never", standings)), holds)


class Papers(unittest.TestCase):
    def assert_paper(self, house, wish, thing, good):
        self.assertIs(is_paper(house, wish, thing), good)

    def test_the_paper_that_is_made(self):
        for house, _, least in judged_houses(2503):
            for wish in WISHES:
                paper = paper_of(house, wish)
                self.assertIs(paper.__class__, tuple)
                kind, told = paper
                self.assertIs(told.__class__, list)
                self.assert_paper(house, wish, paper, True)
                self.assert_paper(house, wish, (kind, tuple(told)), True)
                self.assertEqual(kind, "course" if wish in least else "never")
                if kind == "never":
                    self.assertTrue(all(is_standing(house, standing) for standing in told))
                    self.assertEqual(len(set(told)), len(told))
                else:
                    self.assertEqual(run_of(house, told)[-1][2], wish)

    def test_just_800_standings(self):
        for ten in JUST_800:
            for wish in WISHES:
                house = house_of(*ten)
                self.assert_paper(house, wish, paper_of(house, wish), True)

    def test_what_comes_is_closed_in_any_order(self):
        standings = list(searched(HELD))
        for order in (standings, standings[::-1], sorted(standings), sorted(standings)[::-1]):
            for wish in WISHES:
                self.assert_paper(HELD, wish, ("never", order), True)
                self.assert_paper(HELD, wish, ("never", tuple(order)), True)

    def test_a_standing_left_out(self):
        for house in (HELD, house_with(way="front", hold=1), WIDE):
            standings = list(searched(house))
            self.assert_paper(house, "gone", ("never", standings), True)
            for at in range(len(standings)):
                self.assert_paper(house, "gone", ("never", standings[:at] + standings[at + 1:]), False)
        self.assert_paper(HELD, "other", ("never", []), False)
        self.assert_paper(HELD, "other", ("never", ()), False)

    def test_the_first_one_lacking(self):
        # Nothing can go: so the list does not get empty again, and no tick leads back to the first one.
        house = house_with(room=1, top=0)
        standings = [standing for standing in searched(house) if standing != first_standing(house)]
        self.assertEqual(led_to(house, standings), standings)
        self.assert_paper(house, "other", ("never", standings), False)
        self.assert_paper(house, "other", ("never", [first_standing(house)] + standings), True)

    def test_a_standing_put_in_twice(self):
        standings = list(searched(HELD))
        for at in range(len(standings)):
            for to in range(len(standings) + 1):
                twice = standings[:to] + [standings[at]] + standings[to:]
                self.assert_paper(HELD, "other", ("never", twice), False)

    def test_a_standing_with_a_part_otherwise(self):
        standings = list(searched(HELD))
        for at, (shown, waiting, quiet, one) in enumerate(standings):
            others = [
                (shown, waiting, quiet), (shown, waiting, quiet, one, ()), [shown, waiting, quiet, one], None, at, "",
                (list(shown), waiting, quiet, one), (shown, list(waiting), quiet, one), (shown, waiting, False, one),
                (shown, waiting, quiet, list(one)), (shown, waiting, 1, one), (shown, (1,), quiet, one), {}, [],
                plain_house(),
                (shown, waiting, -1, one), (shown, waiting, quiet, (1, 0, 0)), (shown, waiting, quiet, (0, 2, -1)),
                (shown + ((1, False, 0),), waiting, quiet, one), (shown + ((0, True, 0),), waiting, quiet, one),
                (shown + ((0, 0, 0),), waiting, quiet, one), (shown + ([0, False, 0],), waiting, quiet, one),
            ]
            for other in others:
                self.assert_paper(HELD, "other", ("never", standings[:at] + [other] + standings[at + 1:]), False)
                self.assert_paper(HELD, "other", ("never", standings[:at] + [other] + standings[at:]), False)

    def test_an_outcome_that_the_wish_bars(self):
        for house, wish in (
            (FREE, "other"), (GUARDED, "back"), (house_with(goes=True), "empty"),
            (house_with(goes=True, hold=1), "gone"),
        ):
            standings = list(searched(house))
            for other in WISHES:
                self.assert_paper(house, other, ("never", standings), wish_holds(house, other))
            self.assert_paper(house, wish, ("never", standings), False)

    def test_standings_that_never_come(self):
        standings = list(searched(WIDE))
        for standing in itertools.islice(forms_of(WIDE), 0, None, 5):
            if standing not in standings:
                more = led_to(WIDE, [standing], standings)
                self.assert_paper(WIDE, "gone", ("never", standings + more), True)
                self.assert_paper(WIDE, "gone", ("never", more[::-1] + standings), True)
                self.assert_paper(WIDE, "gone", ("never", standings + more[:-1]), len(more) == 1)

    def test_standings_that_never_come_may_bar_a_paper(self):
        # The wish holds, but it would not if the seen item could be lost.
        standings = list(searched(HELD))
        lost = led_to(HELD, [(((0, False, 0),), (), 0, (0, 0, -1))], standings)
        self.assertIs(wish_holds(HELD, "other"), True)
        self.assert_paper(HELD, "other", ("never", standings + lost), False)
        for wish in ("back", "empty", "gone"):
            self.assert_paper(HELD, wish, ("never", standings + lost), True)

    def test_just_1000_standings(self):
        standings = closed_of(WIDE, 1000)
        self.assert_paper(WIDE, "gone", ("never", standings), True)
        self.assert_paper(WIDE, "gone", ("never", tuple(standings)), True)
        self.assert_paper(WIDE, "gone", ("never", closed_of(WIDE, 999)), True)

    def test_more_than_1000_standings(self):
        for many in (1001, 1040):
            standings = closed_of(WIDE, many)
            self.assert_paper(WIDE, "gone", ("never", standings), False)
            self.assert_paper(WIDE, "gone", ("never", tuple(standings)), False)

    def test_a_paper_where_too_many_come_to_make_one(self):
        judged = 0
        for ten in JUST_801:
            house = house_of(*ten)
            far = searched(house)
            least = broken_at(house, far)
            for wish in WISHES:
                self.assert_paper(house, wish, ("never", list(far)), wish not in least)
                judged += wish not in least
        self.assertGreater(judged, 0)
        course = [come(0, ("look", 0)), TAP]
        self.assertEqual([wish for wish in WISHES if is_paper(CROWDED, wish, ("course", course))], ["back"])

    def test_courses(self):
        self.assert_paper(FREE, "other", ("course", OPEN_WITH_TAP), True)
        self.assert_paper(FREE, "other", ("course", tuple(OPEN_WITH_TAP)), True)
        self.assert_paper(FREE, "other", ("course", [REST, come(0)] + OPEN_WITH_TAP), True)
        for wish in ("back", "empty", "gone"):
            self.assert_paper(FREE, wish, ("course", OPEN_WITH_TAP), False)

    def test_courses_need_not_be_short(self):
        long = [REST] * 58 + OPEN_WITH_TAP
        self.assert_paper(FREE, "other", ("course", long), True)
        self.assert_paper(FREE, "other", ("course", long[1:] + [REST]), False)

    def test_courses_that_end_otherwise(self):
        for course in (
            [], [REST], [come(0)], OPEN_WITH_TAP[:1], OPEN_WITH_TAP + [REST], [come(0, ("look", 0)), TAP],
            OPEN_WITH_TAP + [look(0), TAP],
        ):
            self.assertIs(is_course(FREE, course), True)
            for wish in WISHES:
                self.assert_paper(FREE, wish, ("course", course), False)
                self.assert_paper(FREE, wish, ("course", tuple(course)), False)

    def test_courses_that_cannot_come(self):
        for course in (
            [TAP], [None], OPEN_WITH_TAP[1:], [look(0)] + OPEN_WITH_TAP, [go(0)] + OPEN_WITH_TAP,
            OPEN_WITH_TAP + [TAP], OPEN_WITH_TAP[:1] + [TAP] + OPEN_WITH_TAP[1:], [come(1)] + OPEN_WITH_TAP,
            [list(moment) for moment in OPEN_WITH_TAP], OPEN_WITH_TAP[:1] + [(["come", 0], ("tap",))],
            OPEN_WITH_TAP[:1] + [(("come", False), ("tap",))], [(("come", 0), ("look", False))] + OPEN_WITH_TAP[1:],
            [None] + OPEN_WITH_TAP[1:], [NONE] + OPEN_WITH_TAP, REST, OPEN_WITH_TAP[0], "other", {}, None, 2, True,
            dict(enumerate(OPEN_WITH_TAP)), plain_house(),
        ):
            with self.subTest(course):
                self.assert_paper(FREE, "other", ("course", course), False)

    def test_courses_of_many_houses(self):
        for number, house in enumerate(sampled_houses(6007)):
            course = some_course(house, 40, number)
            outcomes = [""] + [row[2] for row in run_of(house, course)]
            for many in range(41):
                for wish in WISHES:
                    self.assert_paper(house, wish, ("course", course[:many]), outcomes[many] == wish)

    def test_lists_for_tuples_and_other_forms(self):
        standings = list(searched(HELD))
        for house, wish, kind, told in ((HELD, "other", "never", standings), (FREE, "other", "course", OPEN_WITH_TAP)):
            self.assert_paper(house, wish, (kind, told), True)
            other = "course" if kind == "never" else "never"
            for thing in (
                [kind, told], (kind,), (told,), (kind, told, told), (kind, told, []), (told, kind), (other, told),
                told, kind,
                (kind.upper(), told), (kind + " ", told), (kind[:-1], told), (None, told), ((kind,), told),
                ([kind], told),
                (kind, [told]), (kind, (told,)), (kind, kind), (kind, None), {kind: told}, ((kind, told),),
                (True, told),
                (kind, dict.fromkeys(told)), (kind, dict(enumerate(told))), (wish, told), ("", told), (),
                (kind, plain_house()),
                (plain_house(), told), (0, told), (kind, 0),
            ):
                self.assert_paper(house, wish, thing, False)

    def test_values_of_every_kind(self):
        for value in kinds():
            with self.subTest(value):
                for wish in WISHES:
                    self.assert_paper(FREE, wish, value, False)
                    for kind in ("never", "course"):
                        self.assert_paper(FREE, wish, (kind, value), False)
                        self.assert_paper(FREE, wish, (kind, [value]), False)
                self.assert_paper(HELD, "other", ("never", list(searched(HELD)) + [value]), False)
                self.assert_paper(FREE, "other", ("course", OPEN_WITH_TAP + [value]), False)

    def test_a_paper_hangs_on_its_house(self):
        for house, good in ((FREE, True), (HELD, False), (GUARDED, False), (house_with(way="front"), True)):
            self.assert_paper(house, "other", ("course", OPEN_WITH_TAP), good)
        for house, good in ((FREE, False), (HELD, True), (GUARDED, False), (house_with(way="front", hold=1), False)):
            self.assert_paper(house, "other", ("never", list(searched(HELD))), good)


class Errors(ErrorTest):
    def test_no_house(self):
        for wish in ("other", "right", None):
            for work in (wish_holds, breaker_of, paper_of):
                self.assert_bad_house(work, wish)
            for thing in (("course", OPEN_WITH_TAP), None):
                self.assert_bad_house(is_paper, wish, thing)

    def test_no_wish(self):
        for wish in no_wishes():
            for house in (FREE, CROWDED):
                for work in (wish_holds, breaker_of, paper_of):
                    with self.subTest(work.__name__, wish=wish):
                        self.assert_error(BadWish, "at", None, work, house, wish)
                for thing in (("course", OPEN_WITH_TAP), ("never", [first_standing(house)]), None):
                    self.assert_error(BadWish, "at", None, is_paper, house, wish, thing)

    def test_too_many(self):
        for house in [CROWDED] + [house_of(*ten) for ten in JUST_801]:
            for wish in WISHES:
                for work in (wish_holds, breaker_of, paper_of):
                    self.assert_error(TooMany, "most", 800, work, house, wish)

    def test_too_many_even_if_a_breaker_is_near(self):
        house = house_of("front", 0, 0, 0, 0, 4, 2, 2, True, (1, 3))
        self.assertIs(is_paper(house, "other", ("course", OPEN_WITH_TAP)), True)
        for work in (wish_holds, breaker_of, paper_of):
            self.assert_error(TooMany, "most", 800, work, house, "other")

    def test_the_first_error_applies(self):
        for value in not_houses():
            for work in (wish_holds, breaker_of, paper_of):
                self.assert_error(BadHouse, "part", "house", work, value, value)
            self.assert_error(BadHouse, "part", "house", is_paper, value, value, value)


class Calls(unittest.TestCase):
    def test_by_name(self):
        self.assertIs(wish_holds(wish="other", house=FREE), False)
        self.assertEqual(breaker_of(wish="other", house=FREE), OPEN_WITH_TAP)
        self.assertEqual(paper_of(wish="other", house=FREE), ("course", OPEN_WITH_TAP))
        self.assertIs(is_paper(thing=("course", OPEN_WITH_TAP), wish="other", house=FREE), True)
        self.assertIs(is_paper(FREE, wish="other", thing=None), False)
        self.assertIs(wish_holds(FREE, wish="gone"), True)

    def test_what_is_returned_may_be_changed(self):
        breaker_of(FREE, "other").clear()
        self.assertEqual(breaker_of(FREE, "other"), OPEN_WITH_TAP)
        paper_of(FREE, "other")[1].clear()
        self.assertEqual(paper_of(FREE, "other"), ("course", OPEN_WITH_TAP))
        same = paper_of(HELD, "other")
        paper_of(HELD, "other")[1].clear()
        self.assertEqual(paper_of(HELD, "other"), same)

    def test_what_is_passed_stays_as_it_is(self):
        standings = list(searched(HELD))
        for thing in (
            ("never", standings), ("never", standings[::-1]), ("never", standings * 2), ("course", list(OPEN_WITH_TAP)),
            ["course", [None]], ("never", [[], {}]), {"never": standings},
        ):
            same = copy.deepcopy(thing)
            for house in (FREE, HELD):
                is_paper(house, "other", thing)
                self.assertEqual(thing, same)

    def test_equal_arguments_give_equal_results(self):
        first = [(wish_holds(house, wish), breaker_of(house, wish), paper_of(house, wish))
                 for house in (FREE, HELD, WIDE) for wish in WISHES]
        for house, standings, _ in judged_houses(20011):
            for wish in WISHES:
                is_paper(house, wish, ("never", standings))
                paper_of(house, wish)
        houses = [house_of(*ten_of(house)) for house in (FREE, HELD, WIDE)]
        again = [(wish_holds(house, wish), breaker_of(house, wish), paper_of(house, wish))
                 for house in houses for wish in WISHES]
        self.assertEqual(again, first)


if __name__ == "__main__":
    unittest.main()
