"""Promises [30], [31] and [32], and what [3] says of them, for undertap.ticks."""

import itertools
import random
import unittest

from tests.kinds import GREAT, ErrorTest, kinds, plain_house, plain_rule
from tests.model import Model
from tests.samples import (
    ALL, NONE, REST, TAP, come, go, house_of, house_with, items_of, look, sampled_houses, searched, some_course, ten_of,
)
from undertap.errors import BadHouse, BadMoment, BadStanding
from undertap.ticks import first_standing, is_standing, moments_at, tick_at

# A house with room for parts of every kind.
WIDE = house_of("end", 2, 1, 0, 2, 2, 1, 2, True, (1, 3))


class Moments(unittest.TestCase):
    def assert_moments(self, house, standing, expected):
        self.assertEqual(moments_at(house, standing), expected)

    def changes(self, house, standing):
        return sorted({change for change, _ in moments_at(house, standing)})

    def hands(self, house, standing, change=NONE):
        return [hand for other, hand in moments_at(house, standing) if other == change]

    def test_of_the_first_standing(self):
        self.assert_moments(plain_house(), ((), (), 0, ()), [come(0, ("look", 0)), come(0), REST])
        self.assert_moments(
            house_with(top=2), ((), (), 0, ()),
            [come(0, ("look", 0)), come(0), come(1, ("look", 0)), come(1), come(2, ("look", 0)), come(2), REST],
        )

    def test_ascending_with_goings_and_looks(self):
        house = house_with(goes=True, top=0, room=3, still=3)
        standing = (((0, False, 0), (0, True, 0), (0, False, 0)), (), 1, ())
        looks = [("look", 0), ("look", 1), ("look", 2), ("none",)]
        changes = [("come", 0), ("go", 0), ("go", 2), ("none",)]
        self.assert_moments(house, standing, [(change, hand) for change in changes for hand in looks])

    def test_kinds_of_what_is_given(self):
        for moment in moments_at(WIDE, (items_of(0, 1), (), 2, ())):
            self.assertIs(moment.__class__, tuple)
            for part in moment:
                self.assertEqual([value.__class__ for value in part], [str, int][:len(part)])
            self.assertEqual([part.__class__ for part in moment], [tuple, tuple])

    def test_comings(self):
        for top in (0, 1, 2):
            house = house_with(top=top, many=2, still=3)
            comings = [("come", rank) for rank in range(top + 1)]
            self.assertEqual(self.changes(house, ((), (), 0, ())), comings + [NONE])
            self.assertEqual(self.changes(house, ((), (0,), 0, ())), comings + [NONE])
            self.assertEqual(self.changes(house, ((), (0, 0), 0, ())), [NONE])
            house = house_with(top=top, many=1, still=3)
            self.assertEqual(self.changes(house, ((), (), 0, ())), comings + [NONE])
            self.assertEqual(self.changes(house, ((), (0,), 0, ())), [NONE])

    def test_comings_hang_on_what_waits_ahead_of_the_tick(self):
        # The rank that waits would be drawn at this tick; still no other one can come.
        self.assertEqual(self.changes(house_with(many=1), ((), (0,), 0, ())), [NONE])
        self.assertEqual(self.changes(house_with(many=2), ((), (0, 1), 0, ())), [NONE])

    def test_goings(self):
        shown = ((0, False, 0), (1, True, 0), (1, False, 0))
        for still, quiet in ((0, 0), (3, 1)):
            house = house_with(goes=True, room=4, still=still)
            self.assertEqual(
                self.changes(house, (shown, (0,), quiet, ())), [("go", 0), ("go", 2), NONE],
            )
        self.assertEqual(self.changes(house_with(goes=False, room=4), (items_of(0, 1), (0,), 0, ())), [NONE])

    def test_looks_at_what_is_shown_behind_the_drawing(self):
        house = house_with(room=3, goes=True, many=2)
        standing = (((0, True, 0), (0, False, 0)), (), 0, ())
        self.assertEqual(self.hands(house, standing), [("look", 0), NONE])
        self.assertEqual(self.hands(house, standing, ("come", 0)), [("look", 0), ("look", 1), NONE])
        self.assertEqual(self.hands(house, standing, ("go", 1)), [NONE])
        waiting = (items_of(0), (0, 1), 0, ())
        self.assertEqual(self.hands(house, waiting), [("look", 0), ("look", 1), ("look", 2), NONE])

    def test_looks_at_what_is_shown_where_nothing_is_drawn(self):
        house = house_with(room=3, goes=True, many=2, still=1)
        standing = (((0, True, 0), (0, False, 0)), (0,), 0, ())
        for change in (NONE, ("come", 0), ("go", 1)):
            self.assertEqual(self.hands(house, standing, change), [("look", 0), ("look", 1), NONE])

    def test_no_look_where_one_is_open(self):
        house = house_with(lag=(3, 3), room=3)
        self.assertEqual(self.hands(house, (items_of(0, 0), (), 0, (0, 0, 0))), [NONE])
        self.assertEqual(self.hands(house, (items_of(0, 0), (), 0, (0, 0, 0)), ("come", 1)), [NONE])

    def test_when_the_tap_can_come_and_must(self):
        for least, most in ALL["lag"]:
            house = house_with(lag=(least, most), goes=True)
            for age in range(most):
                ago = age + 1
                expected = [NONE, ("tap",)] if ago >= least else [NONE]
                if ago == most:
                    expected = [("tap",)]
                with self.subTest((least, most), ago=ago):
                    for spot in (-1, 0):
                        standing = (items_of(0), (), 0, (age, 0, spot))
                        for change in (NONE, ("come", 1), ("go", 0)):
                            self.assertEqual(self.hands(house, standing, change), expected)

    def test_what_is_returned_may_be_changed(self):
        house, standing = house_with(), ((), (), 0, ())
        same = moments_at(house, standing)
        moments_at(house, standing).clear()
        self.assertEqual(moments_at(house, standing), same)
        self.assertIs(same.__class__, list)


class Drawing(unittest.TestCase):
    """Step 2 of a tick: what is shown behind it."""

    def behind(self, house, standing, moment):
        return tick_at(house, standing, moment)[0]

    def ranks(self, house, standing, moment):
        return tuple(item[0] for item in self.behind(house, standing, moment)[0])

    def assert_drawn(self, house, standing, moment, drawn):
        """That the standing, in which something waits or comes, is drawn at this tick, or not."""
        behind = self.behind(house, standing, moment)
        self.assertIs(behind[1] == (), drawn)
        if house.rule.still > 0:
            self.assertIs(behind[2] == 0, drawn)

    def test_each_way(self):
        ahead = (items_of(0, 1, 2), (), 0, ())
        for way, rank, expected in (
            ("end", 0, (0, 1, 2, 0)), ("end", 1, (0, 1, 2, 1)), ("end", 2, (0, 1, 2, 2)),
            ("front", 0, (0, 0, 1, 2)), ("front", 1, (1, 0, 1, 2)), ("front", 2, (2, 0, 1, 2)),
            ("rank", 0, (0, 0, 1, 2)), ("rank", 1, (0, 1, 1, 2)), ("rank", 2, (0, 1, 2, 2)),
        ):
            with self.subTest(way, rank=rank):
                self.assertEqual(self.ranks(house_with(way=way, room=4, top=2), ahead, come(rank)), expected)

    def test_a_rank_goes_behind_its_equals(self):
        house = house_with(way="rank", room=4, top=2, lag=(3, 3))
        # The look tells where an item that was there went.
        ahead = (items_of(1, 1, 2), (), 0, (0, 2, 2))
        self.assertEqual(self.behind(house, ahead, come(1)), (items_of(1, 1, 1, 2), (), 0, (1, 2, 3)))
        self.assertEqual(self.behind(house, (items_of(1, 1), (), 0, (0, 1, 1)), come(1))[3], (1, 1, 1))
        self.assertEqual(self.behind(house, (items_of(1, 1), (), 0, (0, 0, 0)), come(0))[3], (1, 0, 1))

    def test_by_rank_at_the_first_place_with_a_greater_one(self):
        house = house_with(way="rank", room=4, top=2)
        # Standings that never come may have ranks in any order.
        self.assertEqual(self.ranks(house, (items_of(2, 0, 1), (), 0, ()), come(0)), (0, 2, 0, 1))
        self.assertEqual(self.ranks(house, (items_of(0, 2, 0), (), 0, ()), come(1)), (0, 1, 2, 0))
        self.assertEqual(self.ranks(house, (items_of(2, 0, 1), (), 0, ()), come(2)), (2, 0, 1, 2))

    def test_waiting_ranks_in_their_order(self):
        for way, expected in (("end", (1, 2, 0)), ("front", (0, 2, 1)), ("rank", (0, 1, 2))):
            house = house_with(way=way, room=4, top=2, many=2)
            with self.subTest(way):
                self.assertEqual(self.ranks(house, (items_of(1), (2, 0), 0, ()), REST), expected)
                self.assertEqual(self.ranks(house, (items_of(1), (2,), 0, ()), come(0)), expected)

    def test_pins(self):
        shown = items_of(1, 2)
        for way, pins, expected in (
            ("front", 0, (0, 1, 2)), ("front", 1, (1, 0, 2)), ("front", 2, (1, 2, 0)),
            ("rank", 0, (0, 1, 2)), ("rank", 1, (1, 0, 2)), ("rank", 2, (1, 2, 0)),
            ("end", 0, (1, 2, 0)), ("end", 1, (1, 2, 0)), ("end", 2, (1, 2, 0)),
        ):
            with self.subTest(way, pins=pins):
                house = house_with(way=way, pins=pins, room=4, top=2)
                self.assertEqual(self.ranks(house, (shown, (), 0, ()), come(0)), expected)

    def test_pins_with_three_shown(self):
        shown = items_of(1, 1, 2)
        for way, pins, rank, expected in (
            ("front", 1, 0, (1, 0, 1, 2)), ("front", 2, 0, (1, 1, 0, 2)), ("rank", 1, 0, (1, 0, 1, 2)),
            ("rank", 2, 0, (1, 1, 0, 2)), ("rank", 1, 1, (1, 1, 1, 2)), ("rank", 2, 2, (1, 1, 2, 2)),
        ):
            with self.subTest(way, pins=pins, rank=rank):
                house = house_with(way=way, pins=pins, room=4, top=2)
                self.assertEqual(self.ranks(house, (shown, (), 0, ()), come(rank)), expected)

    def test_pins_where_fewer_are_shown(self):
        for way in ("front", "rank", "end"):
            for pins in (1, 2):
                house = house_with(way=way, pins=pins, room=4, many=2)
                self.assertEqual(self.ranks(house, ((), (), 0, ()), come(0)), (0,))
                self.assertEqual(self.ranks(house, (items_of(1), (), 0, ()), come(0)), (1, 0))

    def test_pins_count_the_items_shown_just_then(self):
        house = house_with(way="front", pins=2, room=4, top=2, many=2)
        self.assertEqual(self.ranks(house, (items_of(2), (0, 1), 0, ()), REST), (2, 0, 1))
        self.assertEqual(self.ranks(house, ((), (0, 1), 0, ()), REST), (0, 1))
        # Items that are gone are taken away ahead of it.
        house = house_with(way="front", pins=2, room=4, top=2, many=2, goes=True)
        shown = ((2, True, 0), (1, False, 0), (2, True, 0))
        self.assertEqual(self.ranks(house, (shown, (0,), 0, ()), REST), (1, 0))

    def test_the_room(self):
        for room in (1, 2, 3, 4):
            full = items_of(*[1] * room)
            for way, expected in (("end", (1,) * room), ("front", (0,) + (1,) * (room - 1)), ("rank", (1,) * room)):
                rank = 0 if way == "front" else 1
                with self.subTest(room, way=way):
                    house = house_with(way=way, room=room)
                    self.assertEqual(self.ranks(house, (full, (), 0, ()), come(rank)), expected)
                    self.assertEqual(self.ranks(house, (full[1:], (), 0, ()), come(1)), (1,) * room)

    def test_what_is_beyond_the_room_is_taken_away(self):
        house = house_with(way="rank", room=3, top=2, lag=(3, 3))
        ahead = (items_of(0, 1, 2), (), 0, (0, 2, 2))
        self.assertEqual(self.behind(house, ahead, come(2)), (items_of(0, 1, 2), (), 0, (1, 2, 2)))
        self.assertEqual(self.behind(house, ahead, come(1)), (items_of(0, 1, 1), (), 0, (1, 2, -1)))
        self.assertEqual(self.behind(house, ahead, come(0)), (items_of(0, 0, 1), (), 0, (1, 2, -1)))

    def test_the_new_one_itself_may_be_taken_away(self):
        house = house_with(way="end", room=1, still=1, lag=(2, 2))
        ahead = (items_of(0), (), 1, (0, 0, 0))
        # The list counts as drawn, though it shows what it showed.
        self.assertEqual(self.behind(house, ahead, come(1)), (items_of(0), (), 0, (1, 0, 0)))
        pinned = house_with(way="front", pins=2, room=2, lag=(2, 2))
        self.assertEqual(self.ranks(pinned, (items_of(1, 1), (), 0, ()), come(0)), (1, 1))
        pinned = house_with(way="front", pins=1, room=2, lag=(2, 2))
        self.assertEqual(self.ranks(pinned, (items_of(1, 1), (), 0, ()), come(0)), (1, 0))

    def test_two_that_come_into_little_room(self):
        for way, room, shown, waiting, expected in (
            ("end", 1, (), (1, 2), (1,)), ("front", 1, (), (1, 2), (2,)), ("rank", 1, (), (2, 1), (1,)),
            ("front", 2, (0,), (1, 2), (2, 1)), ("rank", 2, (1,), (2, 0), (0, 1)), ("rank", 2, (0, 2), (1, 1), (0, 1)),
            ("end", 2, (0,), (1, 2), (0, 1)), ("front", 3, (0, 0), (1, 2), (2, 1, 0)),
        ):
            with self.subTest(way, room=room, waiting=waiting):
                house = house_with(way=way, room=room, top=2, many=2)
                self.assertEqual(self.ranks(house, (items_of(*shown), waiting, 0, ()), REST), expected)

    def test_gone_ones_are_taken_away_ahead_of_the_new_ones(self):
        house = house_with(way="end", room=2, goes=True)
        shown = ((0, True, 0), (1, False, 0))
        self.assertEqual(self.behind(house, (shown, (), 0, ()), come(0)), (items_of(1, 0), (), 0, ()))
        self.assertEqual(self.behind(house, (shown, (), 0, ()), REST), (items_of(1), (), 0, ()))
        self.assertEqual(self.behind(house, (((0, True, 0), (1, True, 0)), (), 0, ()), REST), ((), (), 0, ()))

    def test_one_that_goes_is_taken_away_at_once_if_the_list_is_drawn(self):
        house = house_with(goes=True)
        self.assertEqual(self.behind(house, (items_of(0, 1), (), 0, ()), go(0)), (items_of(1), (), 0, ()))
        self.assertEqual(self.behind(house, (items_of(0, 1), (), 0, ()), go(1)), (items_of(0), (), 0, ()))

    def test_one_that_goes_is_shown_still_if_the_list_is_not_drawn(self):
        house = house_with(goes=True, still=2, guard=3)
        ahead = (((0, False, 1), (1, False, 2)), (), 0, ())
        self.assertEqual(self.behind(house, ahead, go(0)), (((0, True, 2), (1, False, 3)), (), 1, ()))
        self.assertEqual(self.behind(house, ahead, go(1)), (((0, False, 2), (1, True, 3)), (), 1, ()))

    def test_what_comes_waits_behind_the_others(self):
        house = house_with(still=3, many=2, top=2)
        self.assertEqual(self.behind(house, ((), (2,), 0, ()), come(0)), ((), (2, 0), 1, ()))
        self.assertEqual(self.behind(house, ((), (), 1, ()), come(1)), ((), (1,), 2, ()))
        self.assertEqual(self.behind(house, ((), (2, 0), 2, ()), REST), ((), (2, 0), 3, ()))

    def test_nothing_is_drawn_if_nothing_waits_or_is_gone(self):
        house = house_with(still=2, goes=True)
        self.assertEqual(self.behind(house, (items_of(0, 1), (), 2, ()), REST), (items_of(0, 1), (), 2, ()))
        self.assertEqual(self.behind(house, (items_of(0, 1), (), 0, ()), REST), (items_of(0, 1), (), 1, ()))
        self.assertEqual(self.behind(house, ((), (), 1, ()), REST), ((), (), 2, ()))

    def test_each_stillness(self):
        for still in (0, 1, 2, 3):
            house = house_with(still=still, goes=True)
            for quiet in range(still + 1):
                with self.subTest(still, quiet=quiet):
                    self.assert_drawn(house, ((), (), quiet, ()), come(0), quiet == still)
                    self.assert_drawn(house, ((), (1,), quiet, ()), REST, quiet == still)
                    gone = self.behind(house, (items_of(0, 0), (), quiet, ()), go(0))
                    self.assertEqual(len(gone[0]), 1 if quiet == still else 2)
                    self.assertEqual(gone[2], 0 if quiet == still else quiet + 1)

    def test_stillness_from_drawing_to_drawing(self):
        for still in (0, 1, 2, 3):
            house, drawn = house_with(still=still, many=1, room=4), []
            standing = first_standing(house)
            for tick in range(10):
                moment = come(0) if standing[1] == () else REST
                standing, _ = tick_at(house, standing, moment)
                drawn.append(standing[1] == ())
            with self.subTest(still):
                self.assertEqual(drawn, [tick % (still + 1) == 0 for tick in range(10)])

    def test_each_hold(self):
        for hold in (0, 1, 2, 3):
            house = house_with(hold=hold, lag=(3, 3))
            for age in (0, 1, 2):
                with self.subTest(hold, age=age):
                    hand = ("tap",) if age == 2 else NONE
                    behind = self.behind(house, (items_of(0), (), 0, (age, 0, 0)), come(1, hand))
                    self.assertEqual(behind[1], (1,) if age + 1 <= hold else ())
                    self.assertEqual(len(behind[0]), 1 if age + 1 <= hold else 2)

    def test_a_hold_ends_with_the_tap(self):
        house = house_with(hold=3, lag=(1, 3))
        standing, outcome = tick_at(house, (items_of(0), (), 0, (0, 0, 0)), come(1, ("tap",)))
        self.assertEqual((standing, outcome), ((items_of(0), (1,), 0, ()), "right"))
        self.assert_drawn(house, standing, REST, True)

    def test_hold_and_stillness_together(self):
        house = house_with(hold=1, still=2, lag=(3, 3))
        for age, quiet in itertools.product((0, 1), (0, 1, 2)):
            with self.subTest(age, quiet=quiet):
                self.assert_drawn(house, (items_of(0), (1,), quiet, (age, 0, 0)), REST, age >= 1 and quiet == 2)

    def test_a_look_at_this_very_tick_holds_nothing(self):
        house = house_with(hold=3)
        self.assertEqual(
            self.behind(house, (items_of(0), (), 0, ()), come(1, ("look", 1))), (items_of(0, 1), (), 0, (0, 1, 1)),
        )


class Standing(unittest.TestCase):
    """Step 3 of a tick: how long the items have stood."""

    def stood(self, house, standing, moment):
        return [item[2] for item in tick_at(house, standing, moment)[0][0]]

    def test_one_tick_more_at_most_guard(self):
        for guard in (0, 1, 2, 3):
            for stood in range(guard + 1):
                house = house_with(guard=guard)
                with self.subTest(guard, stood=stood):
                    ahead = (items_of(0, 1, stood=stood), (), 0, ())
                    self.assertEqual(self.stood(house, ahead, REST), [min(guard, stood + 1)] * 2)

    def test_new_and_moved_ones_have_stood_for_no_tick(self):
        house = house_with(way="front", guard=3, room=3)
        self.assertEqual(self.stood(house, (items_of(0, 1, stood=2), (), 0, ()), come(0)), [0, 0, 0])
        house = house_with(way="end", guard=3, room=3)
        self.assertEqual(self.stood(house, (items_of(0, 1, stood=2), (), 0, ()), come(0)), [3, 3, 0])
        house = house_with(way="rank", guard=3, room=3)
        self.assertEqual(self.stood(house, (items_of(0, 1, stood=1), (), 0, ()), come(0)), [2, 0, 0])

    def test_one_of_the_same_rank_at_the_place_has_not_stood_there(self):
        house = house_with(way="front", guard=3, room=2)
        self.assertEqual(self.stood(house, (items_of(0, 0, stood=2), (), 0, ()), come(0)), [0, 0])
        house = house_with(way="end", guard=3, goes=True)
        self.assertEqual(self.stood(house, (items_of(0, 0, stood=2), (), 0, ()), go(0)), [0])
        self.assertEqual(self.stood(house, (items_of(0, stood=2), (), 0, ()), go(0)), [])
        self.assertEqual(self.stood(house, (((0, True, 2),), (), 0, ()), come(0)), [0])

    def test_pinned_ones_stand(self):
        house = house_with(way="front", pins=1, guard=2, room=3)
        self.assertEqual(self.stood(house, (items_of(0, 1, stood=1), (), 0, ()), come(0)), [2, 0, 0])

    def test_one_that_is_gone_and_shown_still_stands(self):
        house = house_with(guard=2, goes=True, still=1)
        self.assertEqual(self.stood(house, (items_of(0, stood=1), (), 0, ()), go(0)), [2])


class Hands(unittest.TestCase):
    """Step 4 of a tick: looks and taps."""

    def outcome(self, house, standing, moment):
        behind, outcome = tick_at(house, standing, moment)
        self.assertEqual(behind[3], ())
        return outcome

    def test_a_look_opens_with_the_item_that_is_shown_there(self):
        house = house_with(way="front", room=3, lag=(2, 2))
        for place in (0, 1, 2):
            behind = tick_at(house, (items_of(0, 1), (), 0, ()), come(1, ("look", place)))
            self.assertEqual(behind, ((items_of(1, 0, 1), (), 0, (0, place, place)), ""))

    def test_a_look_at_one_that_is_gone(self):
        house = house_with(goes=True, still=1, lag=(1, 1), guard=0)
        ahead = (items_of(0), (), 0, ())
        behind, _ = tick_at(house, ahead, (("go", 0), ("look", 0)))
        self.assertEqual(behind, (((0, True, 0),), (), 1, (0, 0, 0)))
        self.assertEqual(tick_at(house, behind, TAP), (((), (), 0, ()), "empty"))

    def test_no_outcome_without_a_tap(self):
        house = house_with(lag=(1, 3))
        for standing, moment in (
            (((), (), 0, ()), REST), (((), (), 0, ()), come(0)), ((items_of(0), (), 0, ()), look(0)),
            ((items_of(0), (), 0, (0, 0, 0)), REST), ((items_of(0), (), 0, (1, 0, -1)), come(1)),
        ):
            self.assertEqual(tick_at(house, standing, moment)[1], "")

    def test_a_look_grows_older(self):
        house = house_with(lag=(3, 3))
        for age in (0, 1):
            behind, _ = tick_at(house, (items_of(0), (), 0, (age, 0, 0)), REST)
            self.assertEqual(behind[3], (age + 1, 0, 0))

    def test_where_the_seen_item_is(self):
        for way, change, spot, expected in (
            ("front", ("come", 0), 0, 1), ("front", ("come", 0), 1, 2), ("front", ("come", 0), 2, -1),
            ("front", ("come", 0), -1, -1), ("end", ("come", 0), 2, 2), ("end", ("go", 0), 2, 1),
            ("end", ("go", 0), 1, 0), ("end", ("go", 0), 0, -1), ("end", ("go", 2), 1, 1), ("end", ("go", 2), 2, -1),
            ("end", ("go", 1), -1, -1), ("end", NONE, -1, -1), ("end", NONE, 1, 1), ("rank", ("come", 0), 0, 0),
            ("rank", ("come", 0), 1, 2), ("rank", ("come", 0), 2, -1),
        ):
            house = house_with(way=way, room=3, goes=True, lag=(3, 3))
            with self.subTest(way, change=change, spot=spot):
                ahead = (items_of(0, 1, 1), (), 0, (0, 2, spot))
                self.assertEqual(tick_at(house, ahead, (change, NONE))[0][3], (1, 2, expected))

    def test_where_the_seen_item_is_if_nothing_is_drawn(self):
        house = house_with(hold=3, goes=True, lag=(3, 3), room=3)
        for change in (NONE, ("come", 0), ("go", 1)):
            for spot in (-1, 0, 1):
                ahead = (items_of(0, 1), (), 0, (0, 0, spot))
                self.assertEqual(tick_at(house, ahead, (change, NONE))[0][3], (1, 0, spot))

    def test_right(self):
        house = house_with()
        self.assertEqual(self.outcome(house, (items_of(0, 1), (), 0, (0, 1, 1)), TAP), "right")

    def test_other(self):
        house = house_with(way="front")
        self.assertEqual(self.outcome(house, (items_of(0), (), 0, (0, 0, 0)), come(0, ("tap",))), "other")
        self.assertEqual(self.outcome(house, (items_of(0, 1), (), 0, (0, 0, -1)), TAP), "other")
        self.assertEqual(self.outcome(house, (items_of(0, 1), (), 0, (0, 0, 1)), TAP), "other")

    def test_empty(self):
        house = house_with(goes=True, room=3, guard=0)
        self.assertEqual(self.outcome(house, (items_of(0), (), 0, (0, 0, 0)), (("go", 0), ("tap",))), "empty")
        self.assertEqual(self.outcome(house, (items_of(0, 1), (), 0, (0, 1, 1)), (("go", 0), ("tap",))), "empty")
        for spot in (-1, 0, 1):
            self.assertEqual(self.outcome(house, (items_of(0, 1), (), 0, (0, 2, spot)), TAP), "empty")
            self.assertEqual(self.outcome(house, (items_of(0, 1), (), 0, (0, 1, spot)), (("go", 1), ("tap",))), "empty")

    def test_gone(self):
        house = house_with(goes=True, hold=3)
        for spot in (-1, 0, 1):
            with self.subTest(spot):
                ahead = (((0, False, 0), (1, True, 0)), (), 0, (0, 1, spot))
                self.assertEqual(self.outcome(house, ahead, TAP), "gone")
                ahead = (items_of(0, 1), (), 0, (0, 1, spot))
                self.assertEqual(self.outcome(house, ahead, (("go", 1), ("tap",))), "gone")

    def test_back_for_each_guard(self):
        for guard in (0, 1, 2, 3):
            house = house_with(guard=guard, hold=3, goes=True)
            for stood in range(guard + 1):
                for is_gone, spot in itertools.product((False, True), (-1, 0, 1)):
                    ahead = (((0, is_gone, stood), (0, False, 0)), (), 0, (0, 0, spot))
                    otherwise = "gone" if is_gone else "right" if spot == 0 else "other"
                    expected = "back" if stood + 1 < guard else otherwise
                    with self.subTest(guard, stood=stood, is_gone=is_gone, spot=spot):
                        self.assertEqual(self.outcome(house, ahead, TAP), expected)

    def test_back_where_another_one_has_just_come(self):
        house = house_with(way="front", guard=1)
        self.assertEqual(self.outcome(house, (items_of(0, stood=1), (), 0, (0, 0, 0)), come(0, ("tap",))), "back")
        house = house_with(way="end", guard=1)
        self.assertEqual(self.outcome(house, (items_of(0, stood=1), (), 0, (0, 0, 0)), come(0, ("tap",))), "right")

    def test_empty_goes_ahead_of_back(self):
        house = house_with(guard=3, goes=True)
        self.assertEqual(self.outcome(house, (items_of(0), (), 0, (0, 1, 0)), TAP), "empty")
        self.assertEqual(self.outcome(house, (items_of(0), (), 0, (0, 0, 0)), (("go", 0), ("tap",))), "empty")

    def test_a_tap_leaves_the_list(self):
        house = house_with(hold=1, guard=2, still=1, goes=True)
        ahead = (((0, True, 1), (1, False, 0)), (1,), 0, (0, 1, 0))
        self.assertEqual(tick_at(house, ahead, TAP), ((((0, True, 2), (1, False, 1)), (1,), 1, ()), "back"))


class AgainstTheModel(unittest.TestCase):
    """Long courses of many houses, with all that the second telling says of each tick."""

    def assert_same(self, house, ticks, seed):
        source, model, standing = random.Random(seed), Model(house), first_standing(house)
        for _ in range(ticks):
            moments = moments_at(house, standing)
            self.assertEqual(moments, model.moments(), ten_of(house))
            moment = source.choice(moments)
            standing, outcome = tick_at(house, standing, moment)
            self.assertEqual(outcome, model.tick(*moment), ten_of(house))
            self.assertEqual(standing, model.standing(), ten_of(house))
            self.assertIs(is_standing(house, standing), True)

    def test_houses_of_all_kinds(self):
        for number, house in enumerate(sampled_houses(397)):
            self.assert_same(house, 40, number)

    def test_each_stillness_hold_and_guard(self):
        for number, (still, hold, guard) in enumerate(itertools.product(range(4), repeat=3)):
            house = house_of("rank", still, hold, 1, guard, 3, 2, 2, True, (1, 3))
            self.assert_same(house, 120, number)


class FormsThatNeverCome(unittest.TestCase):
    def all_forms(self, house, room, quiets):
        """Every standing of the right form, with these quiets."""
        items = [item for item in itertools.product(range(house.top + 1), (False, True), range(house.rule.guard + 1))
                 if house.goes or not item[1]]
        rows = [row for many in range(room + 1) for row in itertools.product(items, repeat=many)]
        waits = [row for many in range(house.many + 1) for row in itertools.product(range(house.top + 1), repeat=many)]
        for shown, waiting, quiet in itertools.product(rows, waits, quiets):
            looks = itertools.product(range(house.lag[1]), range(house.room), range(-1, len(shown)))
            for one in [()] + list(looks):
                yield (shown, waiting, quiet, one)

    def test_each_has_moments_and_a_tick_for_each(self):
        for house in (
            house_of("front", 1, 1, 1, 1, 2, 0, 2, True, (1, 2)), house_of("rank", 1, 2, 0, 0, 2, 1, 1, True, (2, 2)),
        ):
            for standing in self.all_forms(house, 2, (0, 1)):
                self.assertIs(is_standing(house, standing), True)
                moments = moments_at(house, standing)
                self.assertEqual(moments, sorted(set(moments)))
                self.assertIn(NONE, [change for change, _ in moments])
                for moment in moments:
                    behind, outcome = tick_at(house, standing, moment)
                    self.assertIs(is_standing(house, behind), True)
                    self.assertEqual(outcome != "", moment[1] == ("tap",))

    def test_a_standing_hangs_on_nothing_but_itself(self):
        # One that never comes goes on as one that comes with the same parts but the look.
        house = house_of("front", 1, 0, 0, 1, 2, 1, 1, True, (2, 3))
        far = searched(house)
        for shown, waiting, quiet, one in far:
            if one == ():
                other = (shown, waiting, quiet, (2, 1, -1))
                for change in sorted({change for change, _ in moments_at(house, other)}):
                    behind, _ = tick_at(house, (shown, waiting, quiet, ()), (change, NONE))
                    self.assertEqual(tick_at(house, other, (change, ("tap",)))[0], behind)


class Errors(ErrorTest):
    BAD_MOMENTS = (
        None, (), [], "", 0, True, NONE, (NONE,), (NONE, NONE, NONE), [NONE, NONE], (list(NONE), NONE),
        (NONE, list(NONE)),
        ("none", "none"), (("none", 0), NONE), (NONE, ("none", 0)), ((), ()), (NONE, ()), ((), NONE), (None, None),
        (("nones",), NONE), (("None",), NONE), (NONE, ("None",)), (NONE, ("tap",)), (NONE, ("tap", 0)),
        (("tap",), NONE),
        (("look", 0), NONE), (NONE, ("come", 0)), (("come",), NONE), (("come", -1), NONE), (("come", 2), NONE),
        (("come", True), NONE), (("come", False), NONE), (("come", "0"), NONE), (("come", None), NONE),
        (("come", 0, 0), NONE), (("come", (0,)), NONE), (["come", 0], NONE), (("come", [0]), NONE),
        (("come", {}), NONE),
        (("go",), NONE), (("go", -1), NONE), (("go", True), NONE), (("go", False), NONE), (("go", 2), NONE),
        (("go", GREAT), NONE), (("go", 1), NONE), (NONE, ("look",)), (NONE, ("look", -1)), (NONE, ("look", 2)),
        (NONE, ("look", True)), (NONE, ("look", False)), (NONE, ["look", 0]), (NONE, ("look", "0")),
        (NONE, ("look", 0, 0)), (NONE, ("look", GREAT)), {NONE: NONE}, (NONE, NONE, 0), (plain_house(), NONE),
        ((plain_house(),), NONE), (("come", plain_house()), NONE), (NONE, plain_rule()), "none; none",
    )

    def setUp(self):
        self.house = house_with(goes=True, still=1)
        self.standing = (((0, False, 0), (1, True, 0)), (), 0, ())

    def assert_bad_moment(self, house, standing, moment):
        with self.subTest(moment):
            self.assert_error(BadMoment, "at", None, tick_at, house, standing, moment)

    def bad_standings(self):
        near = [list(self.standing), self.standing[:3], self.standing + (0,), self.standing[:2] + (2, ()),
                self.standing[:2] + (True, ()), self.standing[:3] + ([],), self.standing[:3] + ((1, 0, 0),)]
        return near + kinds()

    def test_no_house(self):
        for standing in (((), (), 0, ()), None, 0):
            self.assert_bad_house(moments_at, standing)
            for moment in (REST, None):
                self.assert_bad_house(tick_at, standing, moment)

    def test_no_standing(self):
        for standing in self.bad_standings():
            with self.subTest(standing):
                self.assertIs(is_standing(self.house, standing), False)
                with self.assertRaises(BadStanding):
                    moments_at(self.house, standing)
                for moment in (REST, None):
                    with self.assertRaises(BadStanding):
                        tick_at(self.house, standing, moment)

    def test_a_standing_of_another_house(self):
        standing = (items_of(0, 1), (), 0, ())
        for house in (house_with(room=1), house_with(top=0)):
            with self.assertRaises(BadStanding):
                moments_at(house, standing)
        with self.assertRaises(BadStanding):
            tick_at(house_with(still=0), ((), (), 1, ()), REST)

    def test_no_moment(self):
        for moment in self.BAD_MOMENTS + tuple(kinds()):
            self.assert_bad_moment(self.house, self.standing, moment)

    def test_parts_of_every_kind(self):
        for value in kinds():
            for moment in (
                (value, NONE), (NONE, value), (value, value), (("come", value), NONE), (("look", value), NONE),
                (NONE, ("come", value)), (NONE, ("tap", value)), ((value, 0), NONE), (NONE, (value,)),
            ):
                if moment not in moments_at(self.house, self.standing) or isinstance(value, bool):
                    self.assert_bad_moment(self.house, self.standing, moment)

    def test_just_the_moments_that_can_come_are_taken(self):
        changes = [NONE] + [(word, number) for word in ("come", "go", "look") for number in range(-1, 5)]
        hands = [NONE, ("tap",)] + [(word, number) for word in ("look", "come") for number in range(-1, 5)]
        for number, house in enumerate(sampled_houses(15013)):
            standing = first_standing(house)
            for moment in some_course(house, 25, number):
                can_come = moments_at(house, standing)
                for other in itertools.product(changes, hands):
                    if other in can_come:
                        tick_at(house, standing, other)
                    else:
                        self.assert_error(BadMoment, "at", None, tick_at, house, standing, other)
                standing, _ = tick_at(house, standing, moment)

    def test_a_tap_too_early_or_none_too_late(self):
        house = house_with(lag=(2, 3))
        self.assert_bad_moment(house, (items_of(0), (), 0, (0, 0, 0)), TAP)
        self.assert_bad_moment(house, (items_of(0), (), 0, (2, 0, 0)), REST)
        self.assert_bad_moment(house, (items_of(0), (), 0, (0, 0, 0)), look(0))
        self.assert_bad_moment(house, (items_of(0), (), 0, ()), TAP)

    def test_looks_that_hang_on_the_change(self):
        house = house_with(goes=True)
        ahead = (items_of(0), (), 0, ())
        tick_at(house, ahead, come(0, ("look", 1)))
        tick_at(house, ahead, look(0))
        self.assert_bad_moment(house, ahead, look(1))
        self.assert_bad_moment(house, ahead, look(0, ("go", 0)))
        self.assert_bad_moment(house, ahead, come(0, ("look", 2)))

    def test_the_first_error_applies(self):
        self.assert_error(BadHouse, "part", "house", tick_at, None, None, None)
        self.assert_error(BadHouse, "part", "house", moments_at, None, None)
        with self.assertRaises(BadStanding):
            tick_at(self.house, None, None)


class Calls(unittest.TestCase):
    def test_by_name(self):
        house = house_with()
        standing = ((), (), 0, ())
        self.assertIs(is_standing(thing=standing, house=house), True)
        self.assertIs(is_standing(house, thing=None), False)
        self.assertEqual(first_standing(house=house), standing)
        self.assertEqual(moments_at(standing=standing, house=house), moments_at(house, standing))
        self.assertEqual(tick_at(moment=REST, standing=standing, house=house), (standing, ""))

    def test_kinds_of_what_is_given(self):
        pair = tick_at(WIDE, (items_of(0), (), 2, ()), (("go", 0), NONE))
        self.assertEqual([value.__class__ for value in pair], [tuple, str])
        behind, _ = tick_at(WIDE, (items_of(0, 1), (), 1, ()), (("go", 0), ("look", 1)))
        self.assertEqual(repr(behind), "(((0, True, 1), (1, False, 1)), (), 2, (0, 1, 1))")

    def test_the_house_stays_as_it_was(self):
        house, same = house_with(goes=True), house_with(goes=True)
        for moment in moments_at(house, (items_of(0, 1), (), 0, ())):
            tick_at(house, (items_of(0, 1), (), 0, ()), moment)
        self.assertEqual(house, same)


if __name__ == "__main__":
    unittest.main()
