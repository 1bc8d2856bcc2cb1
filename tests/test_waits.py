"""Promises [70] and [71], and what [2], [3] and [4] say of them, for undertap.waits."""

import copy
import random
import unittest

from tests.kinds import GREAT, ErrorTest, kinds, not_houses, plain_house
from tests.samples import (
    CROWDED, JUST_800, JUST_801, NONE, REST, TAP, WIDE, closed_of, come, forms_of, house_of, house_with, led_to, look,
    sampled_houses, searched, small_houses, some_course, ten_of,
)
from undertap.courses import behind_of, is_course
from undertap.errors import BadHouse, BadMeasure, TooMany
from undertap.ticks import first_standing, is_standing, moments_at, tick_at
from undertap.waits import is_measure_paper, measure_paper, most_of

MEASURES = ("back", "wait")
# Ranks wait in it for two ticks at most.
SLOW = house_with(still=2, top=0)
# Taps are let go by in it for ever: each item that comes moves all others.
MOVING = house_with(way="front", top=0, guard=1)
# The greatest number of taps in a row that are let go by is 2: one for each place.
FILLING = house_with(guard=2, top=0)
OPEN = ("look", 0)
SHUT = ("tap",)
# Two items are shown behind it, and have stood for a tick.
FULL = [come(0), come(0), REST]
LET_BY = [look(0), come(0, SHUT), REST]
ROUND = ("ever", FULL, LET_BY)


def no_measures():
    """Values that are no measure."""
    return kinds() + ["Wait", "waits", "wai", "wait ", " back", "BACK", "backwait", "other", "empty", "gone", "right",
                      "none", "most", "ever", b"wait", ["wait"], ("wait",), {"wait": "wait"}, ["back", "wait"], GREAT]


def effect(measure, behind, outcome):
    """What the document says of a tick: 1 if the measure counts at it, 0 if it passes, None if it ends."""
    if measure == "wait":
        return 1 if len(behind[1]) > 0 else None
    return {"": 0, "back": 1}.get(outcome)


def ticks_from(house, standings):
    """(standing ahead, standing behind, outcome) for each tick that can come at one of these standings."""
    return [(standing, *tick_at(house, standing, moment)) for standing in standings
            for moment in moments_at(house, standing)]


def least_heights(house, measure, standings):
    """The least heights for these standings, to which all of their ticks lead; None if there are no heights."""
    ticks = [(ahead, behind, effect(measure, behind, outcome)) for ahead, behind, outcome in
             ticks_from(house, standings)]
    ticks = [tick for tick in ticks if tick[2] is not None]
    heights = dict.fromkeys(standings, 0)
    changed = True
    while changed:
        changed = False
        for ahead, behind, many in ticks:
            if heights[behind] < heights[ahead] + many:
                heights[behind] = heights[ahead] + many
                changed = True
                # A run that counts oftener than there are standings behind ticks goes round.
                if heights[behind] > len(heights):
                    return None
    return heights


def are_right(house, measure, heights):
    """Whether a dict from standings to numbers is heights, by the words of the document."""
    if first_standing(house) not in heights or min(heights.values()) < 0:
        return False
    for ahead, behind, outcome in ticks_from(house, heights):
        if behind not in heights:
            return False
        many = effect(measure, behind, outcome)
        if many is not None and heights[behind] < heights[ahead] + many:
            return False
    return True


def run_behind(house, measure, course):
    """How often the measure counts in the longest run with which a course ends."""
    many, standing = 0, first_standing(house)
    for moment in course:
        standing, outcome = tick_at(house, standing, moment)
        one = effect(measure, standing, outcome)
        many = 0 if one is None else many + one
    return many


def course_with(house, measure, many):
    """Some course that ends with a run in which the measure counts so often."""
    for seed in range(1000):
        whole = some_course(house, 60, seed)
        for ticks in range(61):
            if run_behind(house, measure, whole[:ticks]) == many:
                return whole[:ticks]
    raise AssertionError


def has_list(value):
    """Whether a value holds a list, a dict or a rule at any depth, and so is no key of a dict."""
    if isinstance(value, tuple):
        return any(has_list(item) for item in value)
    return value.__hash__ is None


def effects(house, course):
    """The effect of each measure at each tick of a course: the pairs (wait, back)."""
    standing = first_standing(house)
    for moment in course:
        standing, outcome = tick_at(house, standing, moment)
        yield (effect("wait", standing, outcome), effect("back", standing, outcome))


class HowOften(unittest.TestCase):
    def test_ticks_by_hand(self):
        # The test's own telling of the measures, against the words of the document.
        course = [REST, come(0), come(0), look(0), TAP, REST]
        self.assertEqual(list(effects(SLOW, course)), [(None, 0), (None, 0), (1, 0), (1, 0), (None, None), (None, 0)])
        course = [come(0, OPEN), come(0, SHUT), REST, look(0), TAP]
        self.assertEqual(list(effects(MOVING, course)), [(None, 0), (None, 1), (None, 0), (None, 0), (None, None)])

    def test_against_a_search(self):
        told = set()
        for house, far in small_houses(331, 150):
            for measure in MEASURES:
                heights = least_heights(house, measure, list(far))
                expected = None if heights is None else max(heights.values())
                self.assertEqual(most_of(house, measure), expected, (ten_of(house), measure))
                told.add((measure, expected))
        for one in (("back", None), ("back", 0), ("back", 1), ("back", 2), ("wait", 0), ("wait", 3), ("wait", 4)):
            self.assertIn(one, told)

    def test_how_long_ranks_wait(self):
        # A rank comes behind a drawing; a look is made at the last tick of stillness, and holds the list.
        for house, _ in small_houses(1009):
            rule = house.rule
            self.assertEqual(most_of(house, "wait"), rule.still + min(rule.hold, house.lag[1]), ten_of(house))

    def test_by_hand(self):
        for parts, wait, back in (
            ({}, 0, 0),
            ({"still": 1}, 1, 0),
            ({"still": 3}, 3, 0),
            ({"hold": 1}, 1, 0),
            ({"hold": 3}, 1, 0),
            ({"hold": 3, "lag": (1, 2)}, 2, 0),
            ({"hold": 3, "still": 3, "lag": (3, 3)}, 6, 0),
            ({"guard": 1}, 0, 0),
            ({"guard": 2}, 0, 2),
            ({"guard": 2, "room": 1}, 0, 1),
            ({"guard": 2, "room": 3}, 0, 3),
            ({"guard": 1, "way": "front"}, 0, None),
            ({"guard": 1, "way": "front", "pins": 1}, 0, None),
            ({"guard": 1, "way": "front", "pins": 2}, 0, 0),
            ({"guard": 1, "way": "front", "still": 1}, 1, None),
            ({"guard": 1, "way": "front", "hold": 1}, 1, 0),
            ({"guard": 2, "room": 1, "goes": True}, 0, None),
            # The item that goes is taken away at once: then the tap finds none.
            ({"guard": 1, "room": 1, "goes": True}, 0, 0),
            ({"guard": 1, "room": 2, "goes": True}, 0, None),
        ):
            with self.subTest(parts):
                house = house_with(**{"top": 0, **parts})
                self.assertEqual(most_of(house, "wait"), wait)
                self.assertEqual(most_of(house, "back"), back)

    def test_nothing_is_let_go_by_without_a_guard(self):
        for house, _ in small_houses(499, guard=0):
            self.assertEqual(most_of(house, "back"), 0)

    def test_just_800_standings(self):
        for ten in JUST_800:
            house = house_of(*ten)
            self.assertEqual(most_of(house, "wait"), house.rule.still + min(house.rule.hold, house.lag[1]))
            for measure in MEASURES:
                self.assertIs(is_measure_paper(house, measure, measure_paper(house, measure)), True)

    def test_kinds_of_what_is_given(self):
        for house in (SLOW, MOVING, FILLING):
            for measure in MEASURES:
                self.assertIn(most_of(house, measure).__class__, (int, None.__class__))


class Papers(unittest.TestCase):
    def assert_paper(self, house, measure, thing, good):
        self.assertIs(is_measure_paper(house, measure, thing), good)

    def assert_most(self, house, measure, paper, expected):
        """That a paper of the first kind shows so great a number."""
        kind, heights, course = paper
        self.assertEqual((kind, heights.__class__, course.__class__), ("most", dict, list))
        self.assertEqual(list(heights), sorted(heights))
        self.assertTrue(all(is_standing(house, standing) for standing in heights))
        self.assertEqual({height.__class__ for height in heights.values()}, {int})
        self.assertTrue(are_right(house, measure, heights))
        self.assertIs(is_course(house, course), True)
        self.assertEqual((max(heights.values()), run_behind(house, measure, course)), (expected, expected))

    def assert_ever(self, house, measure, paper):
        """That a paper of the second kind shows that there is no greatest number."""
        kind, course, ring = paper
        self.assertEqual((kind, course.__class__, ring.__class__), ("ever", list, list))
        self.assertGreater(len(ring), 0)
        self.assertIs(is_course(house, course + ring), True)
        self.assertEqual(behind_of(house, course), behind_of(house, course + ring))
        once, twice = (run_behind(house, measure, course + ring * times) for times in (1, 2))
        self.assertGreater(once, 0)
        self.assertGreater(twice, once)
        self.assertGreaterEqual(run_behind(house, measure, course + ring * 9), 9)

    def test_the_paper_that_is_made(self):
        kinds_made = set()
        for house, far in small_houses(701, 250):
            for measure in MEASURES:
                paper = measure_paper(house, measure)
                self.assertIs(paper.__class__, tuple)
                self.assert_paper(house, measure, paper, True)
                most = most_of(house, measure)
                if most is None:
                    self.assert_ever(house, measure, paper)
                    self.assert_paper(house, measure, (paper[0], tuple(paper[1]), tuple(paper[2])), True)
                else:
                    self.assert_most(house, measure, paper, most)
                    self.assert_paper(house, measure, (paper[0], paper[1], tuple(paper[2])), True)
                    heights = least_heights(house, measure, list(far))
                    self.assert_paper(house, measure, ("most", heights, paper[2]), True)
                kinds_made.add((measure, paper[0]))
        self.assertEqual(kinds_made, {("back", "ever"), ("back", "most"), ("wait", "most")})

    def test_papers_by_hand(self):
        self.assert_paper(MOVING, "back", ROUND, True)
        self.assert_paper(MOVING, "wait", ROUND, False)
        heights = dict.fromkeys(searched(MOVING), 0)
        self.assert_paper(MOVING, "wait", ("most", heights, []), True)
        self.assert_paper(MOVING, "back", ("most", heights, []), False)
        house = house_with(still=1, room=1, top=0)
        shown, look_at = ((0, False, 0),), (0, 0, 0)
        heights = {
            ((), (), 1, ()): 0, (shown, (), 0, ()): 0, (shown, (), 0, look_at): 0, (shown, (), 1, ()): 0,
            (shown, (), 1, look_at): 0, (shown, (0,), 1, ()): 1, (shown, (0,), 1, look_at): 1,
        }
        self.assertEqual(set(heights), set(searched(house)))
        self.assert_paper(house, "wait", ("most", heights, [come(0), come(0)]), True)
        self.assert_paper(house, "wait", ("most", heights, [come(0), come(0, OPEN)]), True)
        self.assert_paper(house, "wait", ("most", heights, [REST, come(0), REST, come(0), come(0)]), True)
        # The wait ends at the tick at which the list is drawn.
        self.assert_paper(house, "wait", ("most", heights, [come(0), come(0), REST]), False)
        self.assert_paper(house, "wait", ("most", heights, [come(0)]), False)
        self.assert_paper(house, "wait", ("most", heights, []), False)

    def test_a_run_may_begin_anywhere_behind_the_last_tick_that_ends_it(self):
        # The greatest number is 0: it is the run of no ticks, or one that passes only, that ends the course.
        heights = dict.fromkeys(searched(FILLING), 0)
        self.assert_paper(FILLING, "wait", ("most", heights, []), True)
        for course in ([REST], [come(0, OPEN), TAP], [come(0, OPEN), TAP, REST], FULL):
            self.assert_paper(FILLING, "wait", ("most", heights, course), True)

    def test_what_counts_ahead_of_an_end_is_not_added(self):
        paper = measure_paper(SLOW, "wait")
        self.assert_most(SLOW, "wait", paper, 2)
        waits, ends = [come(0), come(0), REST], [REST]
        for course, good in (
            (waits, True), (waits[:2], False), (waits + ends, False), (waits + ends + [come(0)], False),
            (waits + ends + [come(0), REST], True), (waits[:2] + [REST] + ends + [REST, come(0)], False),
            (waits + ends + [REST, come(0), REST], False), ([REST] * 3 + waits, True),
        ):
            self.assertIs(is_course(SLOW, course), True)
            self.assertEqual(run_behind(SLOW, "wait", course), 2 if good else min(1, run_behind(SLOW, "wait", course)))
            self.assert_paper(SLOW, "wait", ("most", paper[1], course), good)

    def test_a_tick_without_a_tap_passes_and_another_tap_ends(self):
        paper = measure_paper(FILLING, "back")
        self.assert_most(FILLING, "back", paper, 2)
        one, two = [come(0, OPEN), TAP], [come(0, ("look", 1)), TAP]
        for course, good in (
            (one + two, True), (one, False), ([REST] + one + [REST] * 3 + two + [REST] * 2, True),
            (one + [REST] * 50 + two + [REST] * 5, True), (one + [REST] + two + [look(0)], True),
            # The tap of an item that has stood long enough ends it.
            (one + [look(0), TAP] + two, False), (one + two + [look(0), TAP], False), (one + [look(0), TAP], False),
        ):
            self.assertIs(is_course(FILLING, course), True)
            self.assert_paper(FILLING, "back", ("most", paper[1], course), good)

    def test_a_height_less_by_one(self):
        for house, measure in ((SLOW, "wait"), (FILLING, "back"), (WIDE, "wait"), (house_with(still=3), "wait")):
            heights = least_heights(house, measure, list(searched(house)))
            course = measure_paper(house, measure)[2]
            self.assert_paper(house, measure, ("most", heights, course), True)
            for standing in heights:
                less = {**heights, standing: heights[standing] - 1}
                self.assert_paper(house, measure, ("most", less, course), False)

    def test_a_height_left_out(self):
        for house, measure in ((SLOW, "wait"), (FILLING, "back"), (SLOW, "back"), (WIDE, "wait")):
            kind, heights, course = measure_paper(house, measure)
            for standing in heights:
                fewer = {other: heights[other] for other in heights if other != standing}
                self.assert_paper(house, measure, (kind, fewer, course), False)
            self.assert_paper(house, measure, (kind, {}, course), False)
            self.assert_paper(house, measure, (kind, {}, []), False)

    def test_the_first_one_lacking(self):
        # Nothing can go: so no tick leads back to the first one.
        for house, measure in ((FILLING, "back"), (house_with(guard=2, room=1, top=0), "back")):
            kind, heights, course = measure_paper(house, measure)
            fewer = {standing: heights[standing] for standing in heights if standing != first_standing(house)}
            self.assertEqual(led_to(house, list(fewer)), list(fewer))
            self.assert_paper(house, measure, (kind, fewer, course), False)
            self.assert_paper(house, measure, (kind, heights, course), True)

    def test_keys_that_are_no_standings(self):
        kind, heights, course = measure_paper(SLOW, "wait")
        shown, waiting, quiet, one = max(heights)
        others = [key for key in kinds() if not has_list(key)]
        others += [
            (shown, waiting, quiet), (shown, waiting, quiet, one, ()), (shown, (0, 0), quiet, one), ((), (), 3, ()),
            (shown + ((0, False, 1),), waiting, quiet, one), (((0, True, 0),), (), 0, ()),
            (((1, False, 0),), (), 0, ()),
            ((), (), -1, ()), ((), (), 2, (1, 0, -1)), ((), (), 2, (0, 2, -1)), ((), (), 2, (0, 0, 0)),
            (((0, False),), (), 0, ()), "most", "wait",
        ]
        for key in others:
            with self.subTest(key):
                for height in (0, 1, 2):
                    self.assert_paper(SLOW, "wait", (kind, {**heights, key: height}, course), False)
                    self.assert_paper(SLOW, "wait", (kind, {key: height, **heights}, course), False)

    def test_bools_within_keys(self):
        # They equal numbers, and so they stand at the place of the key that is right.
        kind, heights, course = measure_paper(SLOW, "wait")
        for standing in heights:
            shown, waiting, quiet, one = standing
            others = [(tuple((rank, 0, stood) for rank, _, stood in shown), waiting, quiet, one)] if shown else []
            others += [(tuple((False, gone, stood) for _, gone, stood in shown), waiting, quiet, one)] if shown else []
            others += [(shown, (False,), quiet, one)] if waiting else []
            others += [(shown, waiting, bool(quiet), one)] if quiet < 2 else []
            others += [(shown, waiting, quiet, (False, False, False))] if one == (0, 0, 0) else []
            for other in others:
                self.assertEqual(other, standing)
                same = {other if key == standing else key: heights[key] for key in heights}
                self.assertEqual(same, heights)
                self.assert_paper(SLOW, "wait", (kind, same, course), False)

    def test_heights_that_are_no_numbers(self):
        kind, heights, course = measure_paper(SLOW, "wait")
        for standing in list(heights):
            for value in kinds():
                if value.__class__ is not int or value < 0:
                    self.assert_paper(SLOW, "wait", (kind, {**heights, standing: value}, course), False)
        for number in (0, 1):
            same = {standing: bool(number) if height == number else height for standing, height in heights.items()}
            self.assertEqual(same, heights)
            self.assert_paper(SLOW, "wait", (kind, same, course), False)
        self.assert_paper(SLOW, "back", ("most", dict.fromkeys(heights, False), []), False)
        self.assert_paper(SLOW, "back", ("most", dict.fromkeys(heights, 0), []), True)

    def test_raised_heights(self):
        for house, measure in ((SLOW, "wait"), (FILLING, "back"), (SLOW, "back"), (house_with(hold=1), "wait")):
            kind, heights, course = measure_paper(house, measure)
            most = max(heights.values())
            for raised in (1, 7, GREAT):
                higher = {standing: heights[standing] + raised for standing in heights}
                self.assertTrue(are_right(house, measure, higher))
                self.assert_paper(house, measure, (kind, higher, course), False)
                for standing in heights:
                    one = {**heights, standing: most + raised}
                    self.assert_paper(house, measure, (kind, one, course), False)
            # Heights need not be the least ones, as long as the greatest one is told by the course.
            raised = 0
            for standing in heights:
                one = {**heights, standing: most}
                self.assert_paper(house, measure, (kind, one, course), are_right(house, measure, one))
                raised += heights[standing] < most and are_right(house, measure, one)
            self.assertEqual(raised > 0, most > 0)

    def test_some_heights_otherwise(self):
        source, told = random.Random(7), []
        for house, far in small_houses(5003, 60):
            for measure in MEASURES:
                if most_of(house, measure) is not None:
                    kind, heights, course = measure_paper(house, measure)
                    most = max(heights.values())
                    for _ in range(20):
                        other = {standing: min(most, max(0, height + source.choice((-1, 0, 0, 0, 0, 0, 0, 1))))
                                 for standing, height in least_heights(house, measure, list(far)).items()}
                        good = are_right(house, measure, other) and max(other.values()) == most
                        self.assert_paper(house, measure, (kind, other, course), good)
                        told.append(good)
        self.assertIn(False, told)

    def test_heights_of_standings_that_never_come(self):
        taken, refused = 0, 0
        for measure in MEASURES:
            standings = list(searched(WIDE))
            course = measure_paper(WIDE, measure)[2]
            most = most_of(WIDE, measure)
            for standing in list(forms_of(WIDE))[::41]:
                more = standings + led_to(WIDE, [standing], standings)
                heights = least_heights(WIDE, measure, more)
                if most is None or heights is None or len(more) == len(standings):
                    continue
                good = max(heights.values()) == most
                self.assert_paper(WIDE, measure, ("most", heights, course), good)
                heights.pop(more[-1])
                if len(more) > len(standings) + 1:
                    self.assert_paper(WIDE, measure, ("most", heights, course), False)
                taken, refused = taken + good, refused + (not good)
        self.assertGreater(taken, 0)
        # In a standing that never comes ranks may wait longer: then no course tells the greatest height.
        lost = house_with(still=1, room=1, top=0)
        heights = least_heights(lost, "wait", led_to(lost, list(searched(lost)) + [((), (0,), 0, ())]))
        self.assertTrue(are_right(lost, "wait", heights))
        for course in ([come(0), come(0)], [come(0), come(0), REST, come(0)]):
            self.assert_paper(lost, "wait", ("most", heights, course), max(heights.values()) == 1)

    def test_just_1200_heights(self):
        standings = closed_of(WIDE, 1200)
        for measure in MEASURES:
            heights = least_heights(WIDE, measure, standings)
            if heights is not None:
                course = measure_paper(WIDE, measure)[2]
                good = max(heights.values()) == run_behind(WIDE, measure, course)
                self.assert_paper(WIDE, measure, ("most", heights, course), good)
                self.assert_paper(WIDE, measure, ("most", {**heights, standings[-1]: -1}, course), False)

    def test_a_course_that_counts_too_few_times(self):
        for house, measure in ((SLOW, "wait"), (FILLING, "back"), (WIDE, "wait")):
            kind, heights, course = measure_paper(house, measure)
            most = max(heights.values())
            self.assertGreater(most, 0)
            for many in range(len(course)):
                good = run_behind(house, measure, course[:many]) == most
                self.assert_paper(house, measure, (kind, heights, course[:many]), good)
            self.assert_paper(house, measure, (kind, heights, []), False)

    def test_some_courses(self):
        for house, measure, parts in (
            (SLOW, "wait", {False, True}), (FILLING, "back", {False}), (SLOW, "back", {True}),
            (WIDE, "wait", {False, True}),
        ):
            kind, heights, _ = measure_paper(house, measure)
            most, told = max(heights.values()), set()
            for seed in range(40):
                course = some_course(house, 12, seed)
                good = run_behind(house, measure, course) == most
                told.add(good)
                self.assert_paper(house, measure, (kind, heights, course), good)
            self.assertEqual(told, parts)

    def test_courses_that_cannot_come(self):
        kind, heights, course = measure_paper(SLOW, "wait")
        for other in (
            [TAP] + course, course + [TAP], course + [None], [None], course[0], None, True, 0, 2, "wait", {}, "",
            dict(enumerate(course)), [list(moment) for moment in course], [come(1)] + course, plain_house(),
            [(("come", False), NONE)] + course[1:], [course], heights,
        ):
            with self.subTest(other):
                self.assert_paper(SLOW, "wait", (kind, heights, other), False)

    def test_rings(self):
        for course, ring, good in (
            (FULL, LET_BY, True), (FULL, LET_BY + LET_BY, True), (FULL + LET_BY, LET_BY, True),
            (FULL, [REST] + LET_BY, True), (FULL, LET_BY + [REST] * 3, True), (FULL + LET_BY[:1], LET_BY[1:], False),
            (FULL + LET_BY[:1], LET_BY[1:] + LET_BY[:1], True), (FULL + LET_BY[:2], LET_BY[2:] + LET_BY[:2], True),
            (FULL + [REST] * 50, LET_BY, True),
            # It does not come back to the standing at which it begins.
            (FULL, LET_BY[:2], False), (FULL, LET_BY[:1], False), (FULL, LET_BY + LET_BY[:2], False),
            (FULL, LET_BY + LET_BY[:1], False), (FULL[:2], LET_BY, False), ([], FULL + LET_BY, False),
            ([come(0)], [come(0)] + LET_BY, False),
            # It never counts, or there is none.
            (FULL, [REST], False), ([], [REST], False), (FULL, [come(0), REST], False), (FULL, [], False),
            ([], [], False),
            # It counts and comes back, but it ends on the way: this tap is right.
            (FULL, [look(0), TAP] + LET_BY, False), (FULL, LET_BY + [look(1), TAP], False),
            (FULL, [look(0), TAP], False),
            # It is no course behind the course.
            (FULL, LET_BY[1:], False), (FULL, [TAP] + LET_BY, False), (FULL, LET_BY + [None], False),
            ([], LET_BY, False), (FULL, [None], False), (FULL + [None], LET_BY, False), ([None] + FULL, LET_BY, False),
            ([TAP], LET_BY, False),
            (FULL, [list(moment) for moment in LET_BY], False), ([list(moment) for moment in FULL], LET_BY, False),
            (FULL, [(("come", False), NONE), REST], False), (FULL, [(NONE, ("look", False))] + LET_BY[1:], False),
        ):
            with self.subTest(course=course, ring=ring):
                self.assert_paper(MOVING, "back", ("ever", course, ring), good)
                self.assert_paper(MOVING, "back", ("ever", tuple(course), tuple(ring)), good)
                self.assert_paper(MOVING, "back", ("ever", course, tuple(ring)), good)
                self.assert_paper(MOVING, "back", ("ever", tuple(course), ring), good)
                self.assert_paper(MOVING, "wait", ("ever", course, ring), False)

    def test_a_ring_through_a_tick_at_which_the_wait_ends(self):
        course, ring = [come(0), come(0), REST, REST], [come(0), REST, REST]
        self.assertEqual(behind_of(SLOW, course + ring), behind_of(SLOW, course))
        self.assertEqual(run_behind(SLOW, "wait", course + ring[:2]), 2)
        self.assert_paper(SLOW, "wait", ("ever", course, ring), False)

    def test_rings_and_courses_of_other_kinds(self):
        for value in kinds() + [FULL[0], LET_BY[0], "ever", dict(enumerate(LET_BY)), {REST: REST}, plain_house()]:
            with self.subTest(value):
                self.assert_paper(MOVING, "back", ("ever", FULL, value), False)
                self.assert_paper(MOVING, "back", ("ever", value, LET_BY), False)
                self.assert_paper(MOVING, "back", ("ever", FULL, LET_BY + [value]), False)
                self.assert_paper(MOVING, "back", ("ever", FULL + [value], LET_BY), False)

    def test_lists_for_tuples_and_other_forms(self):
        kind, heights, course = measure_paper(SLOW, "wait")
        self.assert_paper(SLOW, "wait", (kind, heights, course), True)
        pairs = list(heights.items())
        for thing in (
            [kind, heights, course], (kind, heights), (kind, course), (heights, course), (kind, course, heights),
            (kind, heights, course, []), (kind, heights, course, course), ("ever", heights, course),
            (None, heights, course), (kind.upper(), heights, course), ("mos", heights, course),
            ("most ", heights, course), ((kind,), heights, course), (kind, pairs, course), (kind, tuple(pairs), course),
            (kind, list(heights), course), (kind, [heights], course), (kind, None, course), (kind, heights, [course]),
            (kind, heights, None), heights, course, kind, {kind: heights}, ("wait", heights, course),
            ("never", heights, course), ((kind, heights, course),), (True, heights, course), (),
            (plain_house(), heights, course), (kind, plain_house(), course), (heights, kind, course),
        ):
            self.assert_paper(SLOW, "wait", thing, False)
        for thing in (
            list(ROUND), ROUND[:2], ROUND + ([],), ("ever", FULL + LET_BY), ("most", FULL, LET_BY),
            ("Ever", FULL, LET_BY), ("ever", LET_BY, FULL), (FULL, LET_BY), (None, FULL, LET_BY),
            ("back", FULL, LET_BY), ("course", FULL, LET_BY), ("ever", {}, LET_BY), ("ever", FULL, {}),
            ("ever", [FULL, LET_BY]), (["ever"], FULL, LET_BY), {"ever": FULL},
        ):
            self.assert_paper(MOVING, "back", thing, False)

    def test_values_of_every_kind(self):
        for value in kinds():
            with self.subTest(value):
                for house, measure in ((SLOW, "wait"), (SLOW, "back"), (MOVING, "back")):
                    self.assert_paper(house, measure, value, False)
                    for kind in ("most", "ever"):
                        self.assert_paper(house, measure, (kind, value, value), False)
                        self.assert_paper(house, measure, (kind, value, []), False)
                        self.assert_paper(house, measure, (kind, [], value), False)
                        self.assert_paper(house, measure, (kind, {first_standing(house): 0}, value), False)

    def test_a_paper_hangs_on_its_house_and_its_measure(self):
        for house, good in (
            (MOVING, True), (house_with(way="front", guard=1), True), (house_with(way="front", top=0), False),
            (house_with(way="front", top=0, guard=1, hold=1), False), (house_with(top=0, guard=1), False),
            (house_with(way="front", top=0, guard=2), True), (house_with(way="front", guard=1, room=1), True),
            (house_with(way="front", guard=1, lag=(2, 2)), False), (house_with(way="front", guard=1, lag=(1, 2)), True),
            (house_with(way="front", top=0, guard=1, pins=1), False),
        ):
            self.assert_paper(house, "back", ROUND, good)
        paper = measure_paper(SLOW, "wait")
        for house in (house_with(still=1, top=0), house_with(still=3, top=0), house_with(still=2), MOVING):
            self.assert_paper(house, "wait", paper, False)
        self.assert_paper(SLOW, "back", paper, False)

    def test_a_paper_where_too_many_come_to_make_one(self):
        for ten in JUST_801:
            house = house_of(*ten)
            heights = least_heights(house, "wait", list(searched(house)))
            course = course_with(house, "wait", max(heights.values()))
            self.assert_paper(house, "wait", ("most", heights, course), True)
            self.assert_paper(house, "wait", ("most", heights, course[:-1]), False)
        course = [come(0, OPEN), come(1, SHUT)]
        self.assert_paper(CROWDED, "back", ("ever", course, [REST]), False)


class Errors(ErrorTest):
    def test_no_house(self):
        for measure in ("wait", "other", None):
            for work in (most_of, measure_paper):
                self.assert_bad_house(work, measure)
            for thing in (ROUND, None):
                self.assert_bad_house(is_measure_paper, measure, thing)

    def test_no_measure(self):
        for measure in no_measures():
            for house in (MOVING, CROWDED):
                for work in (most_of, measure_paper):
                    with self.subTest(work.__name__, measure=measure), self.assertRaises(BadMeasure):
                        work(house, measure)
                for thing in (ROUND, None):
                    with self.assertRaises(BadMeasure):
                        is_measure_paper(house, measure, thing)

    def test_too_many(self):
        for house in [CROWDED] + [house_of(*ten) for ten in JUST_801]:
            for measure in MEASURES:
                for work in (most_of, measure_paper):
                    self.assert_error(TooMany, "most", 800, work, house, measure)

    def test_the_first_error_applies(self):
        for value in not_houses():
            for work in (most_of, measure_paper):
                self.assert_error(BadHouse, "part", "house", work, value, value)
            self.assert_error(BadHouse, "part", "house", is_measure_paper, value, value, value)


class Calls(unittest.TestCase):
    def test_by_name(self):
        self.assertEqual(most_of(measure="wait", house=SLOW), 2)
        self.assertEqual(most_of(SLOW, measure="back"), 0)
        self.assertEqual(measure_paper(measure="wait", house=SLOW), measure_paper(SLOW, "wait"))
        self.assertIs(is_measure_paper(thing=ROUND, measure="back", house=MOVING), True)
        self.assertIs(is_measure_paper(MOVING, measure="wait", thing=ROUND), False)

    def test_what_is_returned_may_be_changed(self):
        for house, measure in ((SLOW, "wait"), (MOVING, "back")):
            same = copy.deepcopy(measure_paper(house, measure))
            for part in measure_paper(house, measure)[1:]:
                part.clear()
            self.assertEqual(measure_paper(house, measure), same)

    def test_what_is_passed_stays_as_it_is(self):
        for house, measure in ((SLOW, "wait"), (MOVING, "back"), (FILLING, "back")):
            kind, one, other = measure_paper(house, measure)
            for thing in ((kind, one, other), [kind, one, other], (kind, other, one), ("most", {None: [one]}, other),
                          ("ever", one, [other])):
                same = copy.deepcopy(thing)
                for judge in (SLOW, MOVING):
                    is_measure_paper(judge, measure, thing)
                    self.assertEqual(thing, same)
                    self.assertEqual(repr(thing), repr(same))

    def test_the_order_of_keys_has_no_meaning(self):
        kind, heights, course = measure_paper(SLOW, "wait")
        keys = list(heights)
        for seed in range(5):
            random.Random(seed).shuffle(keys)
            mixed = {key: heights[key] for key in keys}
            self.assertIs(is_measure_paper(SLOW, "wait", (kind, mixed, course)), True)

    def test_equal_arguments_give_equal_results(self):
        given = [(house, measure) for house in (SLOW, MOVING, FILLING) for measure in MEASURES]
        first = [(most_of(*pair), measure_paper(*pair)) for pair in given]
        for house in sampled_houses(20011):
            for measure in MEASURES:
                try:
                    is_measure_paper(house, measure, measure_paper(house, measure))
                except TooMany:
                    pass
        again = [(house_of(*ten_of(house)), measure) for house, measure in given]
        self.assertEqual([(most_of(*pair), measure_paper(*pair)) for pair in again], first)
        self.assertEqual([list(paper[1]) for _, paper in first], [list(measure_paper(*pair)[1]) for pair in again])


if __name__ == "__main__":
    unittest.main()
