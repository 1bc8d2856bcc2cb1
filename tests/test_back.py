"""Promise [100], and what [2], [3] and [4] say of it, for undertap.back."""

import copy
import itertools
import random
import unittest

from tests.kinds import GREAT, ErrorTest, kinds, not_houses, plain_house
from tests.samples import CROWDED, JUST_800, JUST_801, NONE, REST, come, house_of, house_with, small_houses, ten_of
from undertap.back import changes_back, course_back, waiting_back
from undertap.courses import is_course, run_of
from undertap.errors import BadHouse, BadScreens, TooMany
from undertap.ticks import first_standing, moments_at, tick_at

WORKS = (course_back, changes_back, waiting_back)
FREE = house_with(way="front", top=0)
SLOW = house_with(still=1, many=2)


def run_from(house, standing, ticks):
    """All courses of so many ticks from a standing on: each the list of its (moment, standing behind)."""
    if ticks == 0:
        yield []
        return
    for moment in moments_at(house, standing):
        behind, _ = tick_at(house, standing, moment)
        for rest in run_from(house, behind, ticks - 1):
            yield [(moment, behind)] + rest


def by_screens(house, ticks):
    """For all that courses of so many ticks show: the sets of changes, and of what waits, at each tick."""
    found = {}
    for run in run_from(house, first_standing(house), ticks):
        screens = tuple(tuple(item[0] for item in behind[0]) for _, behind in run)
        changes, waiting = found.setdefault(screens, ([set() for _ in run], [set() for _ in run]))
        for at, (moment, behind) in enumerate(run):
            changes[at].add(moment[0])
            waiting[at].add(behind[1])
    return found


def all_screens(house, ticks):
    """All lists of so many tuples of ranks that the house has room for."""
    rows = [row for many in range(house.room + 1) for row in itertools.product(range(house.top + 1), repeat=many)]
    return itertools.product(rows, repeat=ticks)


def shown_by(house, course):
    """The screens of a course."""
    return [tuple(rank for rank, _ in shown) for shown, _, _ in run_of(house, course)]


def ascending(rows):
    return [tuple(sorted(row)) for row in rows]


class ToldBack(unittest.TestCase):
    def assert_told(self, house, screens, expected):
        """What is told back, by the changes and what waits at each tick; None if no course shows so."""
        course = course_back(house, screens)
        if expected is None:
            found = (course, changes_back(house, screens), waiting_back(house, screens))
            self.assertEqual(found, (None, None, None), (ten_of(house), screens))
            return
        self.assertIs(course.__class__, list)
        self.assertIs(is_course(house, course), True)
        self.assertEqual(shown_by(house, course), list(screens), (ten_of(house), screens))
        changes, waiting = expected
        self.assertEqual(changes_back(house, screens), ascending(changes), (ten_of(house), screens))
        self.assertEqual(waiting_back(house, screens), ascending(waiting), (ten_of(house), screens))

    def test_all_courses_of_some_ticks(self):
        for house, _ in small_houses(1801, 120):
            for ticks in (1, 2, 3):
                found = by_screens(house, ticks)
                for screens in random.Random(ticks).sample(sorted(found), min(12, len(found))):
                    self.assert_told(house, list(screens), found[screens])

    def test_all_screens_of_some_houses(self):
        for parts in (
            {"top": 0}, {"top": 0, "goes": True, "way": "front"}, {"room": 1, "still": 1},
            {"room": 1, "many": 2, "still": 2}, {"room": 1, "goes": True, "hold": 1},
            {"top": 0, "hold": 1, "lag": (1, 2)},
        ):
            house = house_with(**parts)
            shown = 0
            for ticks in (0, 1, 2, 3):
                found = by_screens(house, ticks)
                for screens in all_screens(house, ticks):
                    self.assert_told(house, list(screens), found.get(screens))
                    shown += screens not in found
            self.assertGreater(shown, 0)

    def test_six_screens(self):
        for parts in ({"room": 1, "top": 0, "still": 1}, {"room": 1, "top": 0, "goes": True, "still": 2}):
            house = house_with(**parts)
            found = by_screens(house, 6)
            for screens in all_screens(house, 6):
                self.assert_told(house, list(screens), found.get(screens))

    def test_by_hand(self):
        # The second rank may have come at the second tick, or at the third one; what comes then may wait.
        self.assertEqual(changes_back(SLOW, [(0,), (0,), (0, 1)]), [
            (("come", 0),), (("come", 1), NONE), (("come", 0), ("come", 1), NONE),
        ])
        self.assertEqual(waiting_back(SLOW, [(0,), (0,), (0, 1)]), [((),), ((), (1,)), ((),)])
        self.assertEqual(changes_back(FREE, [(0,), (0, 0)]), [(("come", 0),), (("come", 0),)])
        self.assertEqual(waiting_back(FREE, [(0,), (0, 0)]), [((),), ((),)])
        self.assertEqual(changes_back(FREE, [(0,), (0, 0), (0, 0)])[2], (("come", 0), NONE))
        self.assertEqual(changes_back(FREE, [(), (0,), (0,)]), [(NONE,), (("come", 0),), (NONE,)])
        self.assertEqual(course_back(house_with(top=0), [(), ()]), [REST, REST])

    def test_later_screens_tell_of_earlier_ticks(self):
        # The list stands still for two ticks; then the two ranks that came meanwhile are put in, in their order.
        house = house_with(still=2, many=2, room=3)
        still = [(0,), (0,), (0,)]
        self.assertEqual(changes_back(house, still)[1], (("come", 0), ("come", 1), NONE))
        self.assertEqual(changes_back(house, still + [(0, 1, 0)])[1:], [
            (("come", 1), NONE), (("come", 0), ("come", 1), NONE), (("come", 0), NONE),
        ])
        self.assertEqual(waiting_back(house, still + [(0, 1, 0)]), [((),), ((), (1,)), ((1,), (1, 0)), ((),)])
        self.assertEqual(changes_back(house, still + [(0,)]), [(("come", 0),), (NONE,), (NONE,), (NONE,)])
        self.assertEqual(waiting_back(house, still + [(0,)]), [((),)] * 4)

    def test_an_item_that_is_gone_is_shown_still(self):
        house = house_with(goes=True, top=0, room=1, still=1)
        self.assertEqual(changes_back(house, [(0,), (0,), ()]), [
            (("come", 0),), (("go", 0), NONE), (("go", 0), NONE),
        ])
        self.assertEqual(waiting_back(house, [(0,), (0,), ()]), [((),), ((),), ((),)])
        self.assertEqual(changes_back(house, [(0,), ()]), None)

    def test_the_order_of_ranks(self):
        house = house_with(way="rank", top=2, room=3)
        self.assertIsNone(course_back(house, [(1,), (1, 0)]))
        self.assertEqual(changes_back(house, [(1,), (0, 1)]), [(("come", 1),), (("come", 0),)])
        self.assertEqual(changes_back(house, [(1,), (1, 2)]), [(("come", 1),), (("come", 2),)])

    def test_no_screens(self):
        for house, _ in small_houses(9973):
            for screens in ([], ()):
                self.assertEqual([work(house, screens) for work in WORKS], [[], [], []])

    def test_no_course_shows_so(self):
        for screens in (
            [(0, 0)], [(0,), ()], [(), (0, 0)], [(0,), (0, 0), (0,)], [(0,), (0, 0), ()], [()] * 5 + [(0, 0)],
        ):
            self.assertEqual([work(FREE, screens) for work in WORKS], [None, None, None])

    def test_tuples_of_screens(self):
        for screens in ([(0,), (0, 0)], [(0, 0)], [()] * 6):
            for work in WORKS:
                self.assertEqual(work(FREE, tuple(screens)), work(FREE, screens))

    def test_just_800_standings(self):
        for ten in JUST_800:
            house = house_of(*ten)
            found = by_screens(house, 2)
            for screens in sorted(found)[::3]:
                self.assert_told(house, list(screens), found[screens])

    def test_kinds_of_what_is_given(self):
        for found in (changes_back(SLOW, [(0,), (0,)]), waiting_back(SLOW, [(0,), (0,)])):
            self.assertIs(found.__class__, list)
            for row in found:
                self.assertEqual({row.__class__} | {one.__class__ for one in row}, {tuple})
        self.assertEqual(repr(waiting_back(SLOW, [(0,), (0,)])[1]), "((), (0,), (1,))")


class Errors(ErrorTest):
    def assert_bad(self, at, screens):
        for house in (FREE, CROWDED):
            for work in WORKS:
                with self.subTest(work.__name__, screens=screens):
                    self.assert_error(BadScreens, "at", at, work, house, screens)

    def test_no_house(self):
        for screens in ([], [(0,)], [None], None):
            for work in WORKS:
                self.assert_bad_house(work, screens)

    def test_no_list(self):
        for value in kinds():
            if not isinstance(value, (list, tuple)):
                self.assert_bad(None, value)
        for value in ("()", {0: (0,)}, {(0,): (0,)}, plain_house(), True, 6):
            self.assert_bad(None, value)

    def test_more_than_six(self):
        for many in (7, 8, 20):
            self.assert_bad(None, [()] * many)
            self.assert_bad(None, ((0,),) * many)
            self.assert_bad(None, [None] * many)
        for screens in ([()] * 6, ((),) * 6, [(0,)] * 6):
            for work in WORKS:
                self.assertEqual(len(work(FREE, screens)), 6)

    def test_items_that_are_no_tuples_of_ranks(self):
        for value in [[0], [()], "0", {0: 0}] + kinds():
            if not isinstance(value, tuple):
                self.assert_bad(0, [value])
                self.assert_bad(1, [(0,), value])
                self.assert_bad(1, ((0,), value, None))
                self.assert_bad(5, [()] * 5 + [value])
        for value in (
            (True,), (False,), (0, False), ((0,),), (-1,), ("0",), (None,), (GREAT,), ([],), (plain_house(),),
            (0, None), first_standing(FREE), come(0), (0,) * 5,
        ):
            self.assert_bad(0, [value, (0,)])
            self.assert_bad(2, [(), (0,), value])

    def test_more_ranks_than_there_is_room(self):
        for room in (1, 2, 3, 4):
            house = house_with(room=room, top=0)
            for work in WORKS:
                self.assertIsNone(work(house, [(0,) * room] * 2) if room > 1 else None)
                self.assert_error(BadScreens, "at", 0, work, house, [(0,) * (room + 1)])
                self.assert_error(BadScreens, "at", 2, work, house, [(), (0,), (0,) * (room + 1)])

    def test_ranks_beyond_the_top(self):
        for top in (0, 1, 2):
            house = house_with(top=top)
            for work in WORKS:
                self.assertEqual(len(work(house, [(top,)])), 1)
                self.assert_error(BadScreens, "at", 0, work, house, [(top + 1,)])
                self.assert_error(BadScreens, "at", 1, work, house, [(top,), (0, top + 1)])

    def test_the_first_wrong_item(self):
        self.assert_bad(1, [(0,), [0], None, (9,)])
        self.assert_bad(0, [None, None])
        # A screen that no course shows does not hide a wrong one behind it.
        self.assert_bad(2, [(0, 0), (), None])

    def test_too_many(self):
        for house in [CROWDED] + [house_of(*ten) for ten in JUST_801]:
            for screens in ([], [(0,)], [(0, 1)], [()] * 6):
                for work in WORKS:
                    self.assert_error(TooMany, "most", 800, work, house, screens)

    def test_the_first_error_applies(self):
        for value in not_houses():
            for work in WORKS:
                self.assert_error(BadHouse, "part", "house", work, value, value)


class Calls(unittest.TestCase):
    def test_by_name(self):
        for work in WORKS:
            self.assertEqual(work(screens=[(0,), (0, 0)], house=FREE), work(FREE, [(0,), (0, 0)]))
            self.assertIsNone(work(FREE, screens=[(0, 0)]))

    def test_what_is_returned_may_be_changed(self):
        for work in WORKS:
            same = list(work(FREE, [(0,), (0, 0)]))
            work(FREE, [(0,), (0, 0)]).clear()
            work(FREE, []).append(None)
            self.assertEqual(work(FREE, [(0,), (0, 0)]), same)
            self.assertEqual(work(FREE, []), [])

    def test_what_is_passed_stays_as_it_is(self):
        for screens in ([(0,), (0, 0)], [[0], (0,)], [(0, 0)], [], [()] * 7):
            same = copy.deepcopy(screens)
            for work in WORKS:
                try:
                    work(FREE, screens)
                except BadScreens:
                    pass
                self.assertEqual(screens, same)

    def test_equal_arguments_give_equal_results(self):
        screens = [(0,), (0, 0), (0, 0)]
        first = [work(FREE, screens) for work in WORKS]
        for house, _ in small_houses(20011):
            for work in WORKS:
                work(house, [(0,)])
        again = house_of(*ten_of(FREE))
        self.assertEqual([work(again, tuple(screens)) for work in WORKS], first)
        self.assertEqual(course_back(FREE, [(0,)]), course_back(FREE, [(0,)]))
        self.assertIn(course_back(FREE, [(0,)]), ([come(0)], [come(0, ("look", 0))]))


if __name__ == "__main__":
    unittest.main()
