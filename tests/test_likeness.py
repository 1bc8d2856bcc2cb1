"""Promise [90], and what [2] and [3] say of it, for undertap.likeness."""

import random
import unittest

from tests.kinds import ErrorTest, kinds, not_houses
from tests.samples import ALL, CROWDED, JUST_801, PLAIN, come, house_of, house_with, look, sampled_houses, ten_of
from undertap.courses import is_course, run_of
from undertap.errors import BadHouse, OtherHouses, TooMany
from undertap.houses import House
from undertap.likeness import parting, show_alike
from undertap.rules import Rule
from undertap.ticks import first_standing, moments_at, tick_at

FREE = house_with(way="front", top=0)
HELD = house_with(way="front", top=0, hold=1)
GUARDED = house_with(way="front", top=0, guard=1)
# Houses to whose pairs of standings just so many lists of moments lead.
JUST_2000 = (
    (("rank", 0, 2, 1, 3), ("rank", 0, 2, 1, 3), (4, 1, 1, False, (3, 3))),
    (("front", 2, 3, 0, 3), ("rank", 2, 3, 1, 0), (3, 1, 1, False, (2, 2))),
    (("front", 1, 2, 0, 3), ("end", 1, 1, 0, 3), (2, 1, 2, True, (1, 1))),
    (("front", 0, 0, 0, 2), ("rank", 0, 3, 1, 2), (4, 0, 2, True, (2, 3))),
)
JUST_2001 = (
    (("front", 1, 2, 2, 2), ("front", 1, 2, 2, 2), (4, 1, 2, False, (2, 2))),
    (("rank", 2, 2, 0, 3), ("front", 3, 1, 2, 3), (2, 1, 1, False, (2, 2))),
    (("end", 1, 3, 0, 3), ("front", 3, 1, 0, 1), (2, 0, 1, True, (3, 3))),
    (("end", 0, 0, 1, 3), ("end", 2, 2, 1, 2), (1, 2, 2, True, (3, 3))),
)


def both(one, other, rest):
    """The houses with these rules, and the same rest."""
    return house_of(*one, *rest), house_of(*other, *rest)


def told(standing, outcome):
    """What is compared at a tick: the ranks that are shown, and the outcome."""
    return [item[0] for item in standing[0]], outcome


def compared(one, other, most):
    """The least number of ticks of a list of moments that parts them, None if none does, and how many pairs come.

    It is None if more than so many pairs come.
    """
    first = (first_standing(one), first_standing(other))
    far, rows, least = {first: 0}, [first], None
    for pair in rows:
        can_come = set(moments_at(other, pair[1]))
        for moment in moments_at(one, pair[0]):
            if moment in can_come:
                steps = (tick_at(one, pair[0], moment), tick_at(other, pair[1], moment))
                behind = (steps[0][0], steps[1][0])
                if least is None and told(*steps[0]) != told(*steps[1]):
                    least = far[pair] + 1
                if behind not in far:
                    far[behind] = far[pair] + 1
                    rows.append(behind)
        if len(far) > most:
            return None
    return least, len(far)


def ranks_and_outcomes(house, course):
    """What is compared at each tick of a course."""
    return [([rank for rank, _ in shown], outcome) for shown, _, outcome in run_of(house, course)]


def some_pairs(many, seed, most):
    """Houses that differ at most in their rules, and to whose pairs at most so many lists lead, with what is told."""
    source = random.Random(seed)
    found = []
    while len(found) < many:
        one = house_of(*[source.choice(choices) for choices in ALL.values()])
        rule = Rule(*[source.choice(list(ALL.values())[at]) for at in range(5)])
        if source.random() < 0.5:
            part = source.choice(("way", "still", "hold", "pins", "guard"))
            rule = one.rule.with_part(part, source.choice(ALL[part]))
        other = House(rule, one.room, one.top, one.many, one.goes, one.lag)
        result = compared(one, other, most)
        if result is not None:
            found.append((one, other, result[0]))
    return found


class Parting(unittest.TestCase):
    def assert_parting(self, one, other, ticks):
        """That no list of moments with fewer ticks parts the houses; that none does if ticks is None."""
        for here, there in ((one, other), (other, one)):
            names = (ten_of(here), ten_of(there))
            self.assertIs(show_alike(here, there), ticks is None, names)
            moments = parting(here, there)
            if ticks is None:
                self.assertIsNone(moments, names)
                continue
            self.assertIs(moments.__class__, list)
            self.assertEqual(len(moments), ticks, names)
            self.assertIs(is_course(here, moments), True)
            self.assertIs(is_course(there, moments), True)
            rows = [ranks_and_outcomes(house, moments) for house in (here, there)]
            self.assertEqual(rows[0][:-1], rows[1][:-1])
            self.assertNotEqual(rows[0][-1], rows[1][-1])

    def test_against_a_search(self):
        results = some_pairs(60, 1, 500)
        for one, other, least in results:
            self.assert_parting(one, other, least)
        self.assertGreater(len({least for _, _, least in results}), 4)
        self.assertIn(None, {least for _, _, least in results})

    def test_by_hand(self):
        for one, other, ticks in (
            # An item is put in elsewhere, is drawn later, or its tap is let go by.
            ({"way": "front"}, {"way": "end"}, 2),
            ({"way": "front"}, {"way": "rank"}, 2),
            ({"way": "rank"}, {"way": "end"}, 2),
            ({"still": 0}, {"still": 1}, 2),
            ({"still": 1}, {"still": 2}, 3),
            ({"still": 2}, {"still": 3}, 4),
            ({"hold": 0}, {"hold": 1}, 2),
            ({"guard": 0}, {"guard": 2}, 2),
            ({"guard": 1}, {"guard": 2}, 2),
            ({"way": "front", "guard": 0}, {"way": "front", "guard": 1}, 2),
            ({"way": "front", "pins": 0}, {"way": "front", "pins": 1}, 2),
            ({"way": "front", "pins": 1, "room": 3}, {"way": "front", "pins": 2, "room": 3}, 3),
            ({"guard": 2, "lag": (3, 3)}, {"guard": 3, "lag": (3, 3)}, None),
            ({"way": "front", "guard": 2, "lag": (3, 3)}, {"way": "front", "guard": 3, "lag": (3, 3)}, 4),
        ):
            with self.subTest(one=one, other=other):
                self.assert_parting(house_with(**one), house_with(**other), ticks)

    def test_the_houses_of_the_example(self):
        # The ranks are the same, and what the hold bars is seen at the outcome, or at the list that is not drawn.
        self.assert_parting(FREE, GUARDED, 2)
        self.assertEqual(parting(FREE, GUARDED), [come(0, ("look", 0)), come(0, ("tap",))])
        self.assert_parting(FREE, HELD, 2)
        self.assert_parting(HELD, GUARDED, 2)

    def test_houses_that_show_alike(self):
        for one, other in (
            ({"pins": 0}, {"pins": 2}),
            ({"top": 0, "way": "rank"}, {"top": 0, "way": "end"}),
            ({"guard": 0}, {"guard": 1}),
            ({"guard": 0, "lag": (3, 3)}, {"guard": 3, "lag": (3, 3)}),
            ({"room": 1, "way": "front", "pins": 1}, {"room": 1, "way": "rank", "pins": 2}),
            ({"way": "front", "pins": 2}, {"way": "end"}),
            ({"hold": 1}, {"hold": 2}),
            ({"hold": 2, "lag": (1, 2)}, {"hold": 3, "lag": (1, 2)}),
            # Only one rank shows, and the tap comes before the guard ends or behind it.
            ({"room": 1, "top": 0}, {"room": 1, "top": 0, "way": "end", "still": 0}),
        ):
            with self.subTest(one=one, other=other):
                self.assert_parting(house_with(**one), house_with(**other), None)

    def test_a_house_shows_like_itself(self):
        for house in sampled_houses(997, room=1):
            if compared(house, house, 2000) is not None:
                self.assert_parting(house, house_of(*ten_of(house)), None)

    def test_that_an_item_is_gone_is_not_compared(self):
        # With a hold the item that is gone is shown while the look is open; the ranks part when it is taken away.
        one, other = house_with(goes=True, top=0, still=1), house_with(goes=True, top=0, still=2)
        moments = parting(one, other)
        shown = [[row[0] for row in run_of(house, moments)] for house in (one, other)]
        self.assertNotEqual(*[[rank for rank, _ in rows[-1]] for rows in shown])
        self.assert_parting(one, other, len(moments))

    def test_what_waits_is_not_compared(self):
        # Ranks wait in both, or in one only, as long as the lists are the same.
        one, other = house_with(way="end", room=1, still=0), house_with(way="end", room=1, still=3)
        self.assertEqual(run_of(one, [come(0), come(0)])[1][1], ())
        self.assertEqual(run_of(other, [come(0), come(0)])[1][1], (0,))
        self.assert_parting(one, other, None)

    def test_only_moments_that_can_come_in_both(self):
        # A rank that waits bars the next one in one house only: that alone is no parting.
        one, other = house_with(room=1, still=0, way="end"), house_with(room=1, still=1, way="end")
        course = [come(0), come(0), come(0)]
        self.assertEqual([is_course(house, course) for house in (one, other)], [True, False])
        self.assert_parting(one, other, None)


class TheLimit(ErrorTest):
    def test_just_2000_pairs(self):
        for one, other, rest in JUST_2000:
            houses = both(one, other, rest)
            with self.subTest(one=one, other=other):
                least, many = compared(*houses, 2000)
                self.assertEqual(many, 2000)
                self.assertIs(show_alike(*houses), least is None)
                self.assertEqual(least, None if least is None else len(parting(*houses)))
                self.assertIs(show_alike(houses[1], houses[0]), least is None)

    def test_just_2001_pairs(self):
        for one, other, rest in JUST_2001:
            houses = both(one, other, rest)
            with self.subTest(one=one, other=other):
                self.assertIsNone(compared(*houses, 2000))
                self.assertEqual(compared(*houses, 2001)[1], 2001)
                for work in (parting, show_alike):
                    self.assert_error(TooMany, "most", 2000, work, *houses)
                    self.assert_error(TooMany, "most", 2000, work, *houses[::-1])

    def test_also_if_they_part_early(self):
        ten = dict(zip(PLAIN, ten_of(CROWDED)), still=0)
        one, course = house_of(**ten), [come(0), come(1)]
        for way in ("front", "end"):
            other = house_of(**{**ten, "way": way, "pins": 0})
            self.assertEqual([ranks_and_outcomes(house, course)[1][0] for house in (one, other)],
                             [[0, 1], [1, 0] if way == "front" else [0, 1]])
            for work in (parting, show_alike):
                self.assert_error(TooMany, "most", 2000, work, one, other)
        for part in ("still", "hold", "pins", "guard"):
            other = house_of(**{**ten, part: 1})
            for work in (parting, show_alike):
                self.assert_error(TooMany, "most", 2000, work, one, other)

    def test_more_than_800_standings_are_not_too_many(self):
        for ten in JUST_801:
            house = house_of(*ten)
            self.assertIs(show_alike(house, house), True)
            self.assertIsNone(parting(house, house_of(*ten)))


class Errors(ErrorTest):
    def test_no_houses(self):
        for work in (parting, show_alike):
            for value in not_houses():
                with self.subTest(work.__name__, value=value):
                    self.assert_error(BadHouse, "part", "one", work, value, FREE)
                    self.assert_error(BadHouse, "part", "other", work, FREE, value)
                    self.assert_error(BadHouse, "part", "other", work, CROWDED, value)
                    self.assert_error(BadHouse, "part", "one", work, value, value)
                    self.assert_error(BadHouse, "part", "one", work, FREE.rule, value)

    def test_houses_that_differ_in_more_than_their_rules(self):
        others = {"room": (1, 3, 4), "top": (1, 2), "many": (2,), "goes": (True,), "lag": ((1, 2), (2, 2), (3, 3))}
        for part, choices in others.items():
            for value in choices:
                for rule in ({}, {"way": "front", "guard": 3}):
                    other = house_with(**{"top": 0, "way": "front", **rule, part: value})
                    for work in (parting, show_alike):
                        with self.subTest(work.__name__, part=part, value=value):
                            for houses in ((FREE, other), (other, FREE)):
                                with self.assertRaises(OtherHouses):
                                    work(*houses)

    def test_other_houses_ahead_of_too_many(self):
        ten = dict(zip(PLAIN, ten_of(CROWDED)))
        for parts in ({"room": 3}, {"top": 1}, {"many": 1}, {"goes": False}, {"lag": (1, 2)}):
            for work in (parting, show_alike):
                with self.assertRaises(OtherHouses):
                    work(CROWDED, house_of(**{**ten, **parts}))

    def test_rules_are_no_houses(self):
        for value in kinds():
            if isinstance(value, Rule):
                for work in (parting, show_alike):
                    self.assert_error(BadHouse, "part", "one", work, value, value)


class Calls(unittest.TestCase):
    def test_by_name(self):
        self.assertEqual(parting(other=GUARDED, one=FREE), parting(FREE, GUARDED))
        self.assertIs(show_alike(other=GUARDED, one=FREE), False)
        self.assertIs(show_alike(FREE, other=FREE), True)

    def test_what_is_returned_may_be_changed(self):
        same = list(parting(FREE, GUARDED))
        parting(FREE, GUARDED).append(look(0))
        self.assertEqual(parting(FREE, GUARDED), same)

    def test_equal_arguments_give_equal_results(self):
        pairs = some_pairs(10, 3, 100)
        first = [(parting(one, other), show_alike(one, other)) for one, other, _ in pairs]
        again = [(house_of(*ten_of(one)), house_of(*ten_of(other))) for one, other, _ in pairs[::-1]]
        self.assertEqual([(parting(*houses), show_alike(*houses)) for houses in again], first[::-1])


if __name__ == "__main__":
    unittest.main()
