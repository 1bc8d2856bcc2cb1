"""Promise [80], and what [2] and [3] say of it, for undertap.lots."""

import copy
import itertools
import unittest

from tests.kinds import GREAT, ErrorTest, kinds, not_houses, plain_house
from tests.samples import ALL, CROWDED, house_of, house_with, sampled_houses, searched, ten_of
from undertap.errors import BadHouse, BadWish, TooMany
from undertap.houses import House
from undertap.lots import least_triples, triples_that
from undertap.rules import Rule
from undertap.wishes import wish_holds

WISHES = ("back", "empty", "gone", "other")
TRIPLES = list(itertools.product(range(4), repeat=3))
HOUSE = house_with(way="front", top=0)
LEAVING = house_with(room=1, top=0, goes=True)
# At most 800 standings come with each triple but (3, 0, 3), with which more do.
ONE_TOO_GREAT = (
    ("front", 0, 0, 0, 0, 3, 0, 1, True, (1, 2)),
    ("rank", 0, 0, 0, 0, 3, 1, 1, False, (2, 2)),
)
# At most 800 come with each triple, but nearly as many with some.
NEARLY = ("front", 0, 0, 2, 0, 3, 0, 1, True, (1, 2))


def with_triple(house, triple):
    """The house with this triple in the place of that of its rule."""
    still, hold, guard = triple
    rule = Rule(house.rule.way, still, hold, house.rule.pins, guard)
    return House(rule, house.room, house.top, house.many, house.goes, house.lag)


def kept_in(house):
    """The triples with which each wish holds, by asking for each; None if too many standings come."""
    houses = [(triple, with_triple(house, triple)) for triple in TRIPLES]
    try:
        return {wish: {triple for triple, other in houses if wish_holds(other, wish)} for wish in WISHES}
    except TooMany:
        return None


def least_of(triples):
    """Those for which no other one is at most as great in each number."""
    found = []
    for triple in triples:
        below = itertools.product(*(range(number + 1) for number in triple))
        if not any(other in triples for other in below if other != triple):
            found.append(triple)
    return sorted(found)


def rows_of_wishes():
    """All lists of one to four different wishes, in any order."""
    return [row for many in (1, 2, 3, 4) for row in itertools.permutations(WISHES, many)]


class Lots(unittest.TestCase):
    def assert_lots(self, house, wishes, kept):
        """Both lists, by the triples with which each wish holds."""
        expected = [triple for triple in TRIPLES if all(triple in kept[wish] for wish in wishes)]
        self.assertEqual(triples_that(house, wishes), expected, (ten_of(house), wishes))
        self.assertEqual(least_triples(house, wishes), least_of(expected), (ten_of(house), wishes))

    def test_against_each_house(self):
        told = 0
        for house in sampled_houses(6007):
            kept = kept_in(house)
            if kept is not None:
                told += 1
                for wishes in (["other"], ["back", "empty"], list(WISHES)):
                    self.assert_lots(house, wishes, kept)
        self.assertGreater(told, 10)

    def test_each_row_of_wishes(self):
        for house in (HOUSE, LEAVING):
            kept = kept_in(house)
            for row in rows_of_wishes():
                self.assert_lots(house, list(row), kept)
                self.assert_lots(house, row, kept)

    def test_nearly_too_many(self):
        house = house_of(*NEARLY)
        self.assertGreater(max(len(searched(with_triple(house, triple))) for triple in TRIPLES), 750)
        self.assert_lots(house, ["other", "empty"], kept_in(house))

    def test_by_hand(self):
        # The lag is one tick: so a hold or a guard of one tick keeps the item, and a guard of more lets taps go by.
        self.assertEqual(triples_that(HOUSE, ["other"]), [
            (still, hold, guard) for still, hold, guard in TRIPLES if hold > 0 or guard > 0
        ])
        self.assertEqual(least_triples(HOUSE, ["other"]), [(0, 0, 1), (0, 1, 0)])
        self.assertEqual(triples_that(HOUSE, ["back"]), [
            (still, hold, guard) for still, hold, guard in TRIPLES if guard == 0 or guard == 1 and hold > 0
        ])
        self.assertEqual(least_triples(HOUSE, ["back"]), [(0, 0, 0)])
        self.assertEqual(least_triples(HOUSE, ["back", "other"]), [(0, 1, 0)])
        self.assertEqual(least_triples(HOUSE, ["empty", "gone"]), [(0, 0, 0)])
        # An item that goes is taken away at once, or it is shown while it is gone.
        self.assertEqual(triples_that(LEAVING, ["empty", "gone"]), [])
        self.assertEqual(least_triples(LEAVING, ["empty", "gone"]), [])
        self.assertEqual(least_triples(LEAVING, ["empty"]), [(0, 1, 0)])
        self.assertEqual(least_triples(LEAVING, ["gone"]), [(0, 0, 0)])

    def test_the_triple_of_the_rule_has_no_meaning(self):
        for wishes in (["other"], ["back", "other"]):
            triples, least = triples_that(HOUSE, wishes), least_triples(HOUSE, wishes)
            for triple in TRIPLES[::5]:
                self.assertEqual(triples_that(with_triple(HOUSE, triple), wishes), triples)
                self.assertEqual(least_triples(with_triple(HOUSE, triple), wishes), least)

    def test_the_rest_of_the_house_is_kept(self):
        # A guard as long as the greatest lag is enough, and one pinned place more bars the movement.
        for lag in ALL["lag"]:
            house = house_with(way="front", top=0, lag=lag)
            self.assertIn((0, 0, lag[1]), triples_that(house, ["other"]))
            self.assertNotIn((0, 0, lag[1] - 1), triples_that(house, ["other"]))
        for pins in (0, 1, 2):
            house = house_with(way="front", top=0, pins=pins)
            self.assertEqual((0, 0, 0) in triples_that(house, ["other"]), pins == 2)
        for way in ALL["way"]:
            self.assertEqual((0, 0, 0) in triples_that(house_with(way=way), ["other"]), way == "end")

    def test_kinds_of_what_is_given(self):
        for found in (triples_that(HOUSE, ["other"]), least_triples(HOUSE, ["other"])):
            self.assertIs(found.__class__, list)
            for triple in found:
                self.assertEqual([triple.__class__] + [part.__class__ for part in triple], [tuple, int, int, int])


class Errors(ErrorTest):
    def assert_bad(self, at, wishes):
        for house in (HOUSE, CROWDED):
            for work in (triples_that, least_triples):
                with self.subTest(work.__name__, wishes=wishes):
                    self.assert_error(BadWish, "at", at, work, house, wishes)

    def test_no_house(self):
        for wishes in (["other"], [], None):
            for work in (triples_that, least_triples):
                self.assert_bad_house(work, wishes)

    def test_no_list_of_one_to_four(self):
        for value in kinds():
            if not isinstance(value, (list, tuple)):
                self.assert_bad(None, value)
        for value in ("other", "back", {"other": "back"}, {"other": True}, plain_house(), GREAT, 1, True):
            self.assert_bad(None, value)

    def test_no_items_and_five(self):
        for value in ([], (), list(WISHES) + ["back"], WISHES + ("right",), [None] * 5, ["other"] * 5, [None] * 9):
            self.assert_bad(None, value)

    def test_values_that_are_no_wish(self):
        for value in kinds() + ["right", "Other", "othe", "other ", "wait", ["other"], ("other",), {"other": 1}]:
            self.assert_bad(0, [value])
            self.assert_bad(0, (value,))
            self.assert_bad(0, [value, "other"])
            self.assert_bad(1, ["other", value])
            self.assert_bad(3, ("other", "back", "gone", value))
            self.assert_bad(2, ["other", "back", value, value])

    def test_the_same_wish_twice(self):
        for wish in WISHES:
            others = [other for other in WISHES if other != wish]
            self.assert_bad(1, [wish, wish])
            self.assert_bad(1, (wish, wish, wish, wish))
            self.assert_bad(2, [others[0], wish, wish])
            self.assert_bad(2, [wish, others[0], wish, others[0]])
            self.assert_bad(3, [wish, others[0], others[1], wish])
            self.assert_bad(3, (others[0], others[1], wish, wish))

    def test_the_first_wrong_item(self):
        self.assert_bad(1, ["other", "other", None])
        self.assert_bad(1, ["other", None, "other"])
        self.assert_bad(0, [None, "other", "other"])
        self.assert_bad(2, ["other", "back", "right", "back"])
        self.assert_bad(2, ["other", "back", "back", "right"])

    def test_too_many_with_just_one_triple(self):
        for ten in ONE_TOO_GREAT:
            house = house_of(*ten)
            great = [triple for triple in TRIPLES if searched(with_triple(house, triple), 800) is None]
            self.assertEqual(great, [(3, 0, 3)])
            for triple, wishes in (((0, 0, 0), ["other"]), ((3, 0, 3), ["back"]), ((1, 2, 3), list(WISHES))):
                for work in (triples_that, least_triples):
                    self.assert_error(TooMany, "most", 800, work, with_triple(house, triple), wishes)

    def test_far_too_many(self):
        for work in (triples_that, least_triples):
            self.assert_error(TooMany, "most", 800, work, CROWDED, ["other"])

    def test_the_first_error_applies(self):
        for value in not_houses():
            for work in (triples_that, least_triples):
                self.assert_error(BadHouse, "part", "house", work, value, value)


class Calls(unittest.TestCase):
    def test_by_name(self):
        self.assertEqual(least_triples(wishes=["other"], house=HOUSE), [(0, 0, 1), (0, 1, 0)])
        self.assertEqual(triples_that(wishes=["other"], house=HOUSE), triples_that(HOUSE, ["other"]))
        self.assertEqual(triples_that(HOUSE, wishes=("other",)), triples_that(HOUSE, ["other"]))

    def test_what_is_returned_may_be_changed(self):
        for work in (triples_that, least_triples):
            same = list(work(HOUSE, ["other"]))
            work(HOUSE, ["other"]).clear()
            self.assertEqual(work(HOUSE, ["other"]), same)

    def test_what_is_passed_stays_as_it_is(self):
        for wishes in (["other", "back"], ["other", "other"], [["other"]], [], ["gone", None]):
            same = copy.deepcopy(wishes)
            for work in (triples_that, least_triples):
                try:
                    work(HOUSE, wishes)
                except BadWish:
                    pass
                self.assertEqual(wishes, same)

    def test_equal_arguments_give_equal_results(self):
        first = [work(HOUSE, ["other"]) for work in (triples_that, least_triples)]
        triples_that(LEAVING, ["gone"])
        again = house_of(*ten_of(HOUSE))
        self.assertEqual([work(again, ("other",)) for work in (triples_that, least_triples)], first)


if __name__ == "__main__":
    unittest.main()
