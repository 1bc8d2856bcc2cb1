"""Promise [120], and what [2], [3] and [4] say of it, for undertap.journals."""

import copy
import random
import unittest

from tests.kinds import GREAT, ErrorTest, kinds, not_houses, plain_house
from tests.samples import NONE, REST, TAP, come, go, house_of, look, sampled_houses, ten_of
from undertap.courses import behind_of, run_of
from undertap.errors import BadHouse, BadJournal
from undertap.journals import first_wrong, replayed
from undertap.screen import Screen
from undertap.ticks import moments_at, tick_at

HOUSE = house_of("front", 0, 0, 0, 0, 2, 1, 1, True, (1, 2))
GUARDED = house_of("front", 1, 1, 1, 2, 3, 1, 2, True, (2, 3))
UNDO = ("undo",)
JOURNAL = [
    ("shown", ()),
    ("tick", ("come", 0), ("look", 0), ""),
    ("shown", ((0, False),)),
    ("tick", ("come", 1), ("tap",), "other"),
    ("shown", ((1, False), (0, False))),
    UNDO,
    ("shown", ((0, False),)),
    ("tick", NONE, ("tap",), "right"),
    UNDO,
    UNDO,
    ("shown", ()),
    ("tick", ("come", 1), NONE, ""),
    ("shown", ((1, False),)),
]
OUTCOMES = ("", "back", "empty", "gone", "other", "right")


def shown_behind(house, course):
    """The tuple of the pairs that are shown behind a course."""
    return run_of(house, course)[-1][0] if course else ()


def ticked(moment, outcome):
    return ("tick", *moment, outcome)


def some_journal(house, entries, seed):
    """A right journal of so many entries, with no more than 60 ticks at any time."""
    source, journal, course = random.Random(seed), [], []
    while len(journal) < entries:
        deed = source.choice(("tick", "tick", "tick", "undo", "shown"))
        if deed == "tick" and len(course) < 60:
            standing = behind_of(house, course)
            moment = source.choice(moments_at(house, standing))
            journal.append(ticked(moment, tick_at(house, standing, moment)[1]))
            course.append(moment)
        if deed == "undo" and course:
            journal.append(UNDO)
            course.pop()
        if deed == "shown":
            journal.append(("shown", shown_behind(house, course)))
    return journal


def judged(house, journal):
    """The index of the first wrong one of entries that have the form of one, None if there is none, and the course."""
    course = []
    for at, entry in enumerate(journal):
        if entry[0] == "tick":
            standing, moment = behind_of(house, course), entry[1:3]
            if moment not in moments_at(house, standing) or tick_at(house, standing, moment)[1] != entry[3]:
                return at, course
            course.append(moment)
        elif entry[0] == "undo":
            if not course:
                return at, course
            course.pop()
        elif entry[1] != shown_behind(house, course):
            return at, course
    return None, course


class JournalTest(ErrorTest):
    def assert_wrong(self, house, journal, at):
        """That the entry at this index is the first wrong one."""
        for given in (journal, tuple(journal)):
            self.assertEqual(first_wrong(house, given), at, (ten_of(house), journal))
            self.assertIs(first_wrong(house, given).__class__, at.__class__)
            if at is not None:
                self.assert_error(BadJournal, "at", at, replayed, house, given)

    def assert_right(self, house, journal, course):
        """That no entry is wrong, and that this course stands behind them."""
        self.assert_wrong(house, journal, None)
        for given in (journal, tuple(journal)):
            screen = replayed(house, given)
            self.assertIsInstance(screen, Screen)
            self.assertEqual((screen.house, screen.course), (house, course))
            self.assertEqual(screen.standing, behind_of(house, course))

    def assert_judged(self, house, journal):
        at, course = judged(house, journal)
        if at is None:
            self.assert_right(house, journal, course)
        else:
            self.assert_wrong(house, journal, at)


class Right(JournalTest):
    def test_by_hand(self):
        self.assert_right(HOUSE, JOURNAL, [come(1)])
        self.assert_right(HOUSE, JOURNAL[:5], [come(0, ("look", 0)), come(1, ("tap",))])

    def test_no_entries(self):
        for house in sampled_houses(9973):
            self.assert_right(house, [], [])

    def test_each_beginning(self):
        for many in range(len(JOURNAL) + 1):
            at, course = judged(HOUSE, JOURNAL[:many])
            self.assertIsNone(at)
            self.assert_right(HOUSE, JOURNAL[:many], course)

    def test_rows_of_ticks_undos_and_lists(self):
        for seed, house in enumerate(sampled_houses(3001)):
            journal = some_journal(house, 40, seed)
            for many in (0, 1, 7, 25, 40):
                at, course = judged(house, journal[:many])
                self.assertIsNone(at)
                self.assert_right(house, journal[:many], course)

    def test_130_entries(self):
        for seed, house in enumerate((HOUSE, GUARDED)):
            journal = some_journal(house, 130, seed)
            self.assert_right(house, journal, judged(house, journal)[1])
            self.assert_wrong(house, journal[:-1] + [None], 129)

    def test_sixty_ticks_and_all_taken_back(self):
        journal = [ticked(REST, "")] * 60 + [UNDO] * 60 + [("shown", ())]
        self.assert_right(HOUSE, journal, [])
        self.assert_wrong(HOUSE, journal + [UNDO], 121)


class Wrong(JournalTest):
    def test_an_entry_left_out_twice_or_elsewhere(self):
        journals = [(HOUSE, JOURNAL), (GUARDED, some_journal(GUARDED, 20, 1))]
        journals += [(house, some_journal(house, 14, seed)) for seed, house in enumerate(sampled_houses(12007))]
        for house, journal in journals:
            for at in range(len(journal)):
                self.assert_judged(house, journal[:at] + journal[at + 1:])
                self.assert_judged(house, journal[:at] + [journal[at]] + journal[at:])
                for to in range(at):
                    other = list(journal)
                    other[at], other[to] = other[to], other[at]
                    self.assert_judged(house, other)

    def test_an_entry_put_in(self):
        entries = [UNDO, ticked(REST, ""), ticked(TAP, "right"), ticked(TAP, ""), ticked(come(0), ""), ("shown", ()),
                   ("shown", ((0, False),)), ("shown", ((0, True),)), ticked(look(0), ""), ticked(go(0), "")]
        for house, journal in ((HOUSE, JOURNAL), (GUARDED, some_journal(GUARDED, 20, 2))):
            for at in range(len(journal) + 1):
                for entry in entries:
                    self.assert_judged(house, journal[:at] + [entry] + journal[at:])

    def test_another_outcome(self):
        for house, journal in ((HOUSE, JOURNAL), (GUARDED, some_journal(GUARDED, 40, 3))):
            for at, entry in enumerate(journal):
                if entry[0] == "tick":
                    others = [outcome for outcome in OUTCOMES if outcome != entry[3]]
                    others += [None, False, True, 0, [entry[3]], (entry[3],), entry[3] + " ", "ok", "none", {}, GREAT,
                               plain_house()]
                    for outcome in others:
                        self.assert_wrong(house, journal[:at] + [entry[:3] + (outcome,)] + journal[at + 1:], at)

    def test_other_items(self):
        for house, journal in ((HOUSE, JOURNAL), (GUARDED, some_journal(GUARDED, 40, 4))):
            for at, entry in enumerate(journal):
                if entry[0] != "shown":
                    continue
                items = entry[1]
                others = [
                    items + ((0, False),), items[:-1] if items else ((1, False),), list(items), None, "", 0, {},
                    [list(pair) for pair in items] or [()], (items,), items + ((0,),), items + ([0, False],),
                    items + ((0, 0),), items + ((0, False, 0),), items + (0, False), True, "none", plain_house(),
                ]
                if items:
                    others += [
                        tuple((rank + 1, gone) for rank, gone in items),
                        tuple((rank, not gone) for rank, gone in items),
                        tuple((rank, int(gone)) for rank, gone in items), tuple(list(pair) for pair in items),
                        tuple((gone, rank) for rank, gone in items), tuple(pair[:1] for pair in items),
                        tuple(pair + (0,) for pair in items), tuple((str(rank), gone) for rank, gone in items),
                        tuple(rank for rank, _ in items),
                    ]
                for other in others:
                    self.assert_wrong(house, journal[:at] + [("shown", other)] + journal[at + 1:], at)

    def test_true_for_a_number(self):
        journal = [ticked(come(1), ""), ("shown", ((1, False),))]
        self.assert_right(HOUSE, journal, [come(1)])
        self.assert_wrong(HOUSE, journal[:1] + [("shown", ((True, False),))], 1)
        self.assert_wrong(HOUSE, journal[:1] + [("shown", ((1, 0),))], 1)
        self.assert_wrong(HOUSE, journal[:1] + [("shown", ((True, 0),))], 1)
        self.assert_wrong(HOUSE, [ticked((("come", True), NONE), "")], 0)
        self.assert_wrong(HOUSE, [ticked((("come", 1), ("look", False)), "")], 0)
        self.assert_wrong(HOUSE, journal + [ticked((("go", False), NONE), "")], 2)
        journal = [ticked(come(0), ""), ("shown", ((False, False),))]
        self.assert_wrong(HOUSE, journal, 1)

    def test_items_of_a_pair_that_is_none(self):
        journal = [ticked(come(0), ""), ticked(come(1), "")]
        items = ((1, False), (0, False))
        self.assert_wrong(HOUSE, journal + [("shown", items)], None)
        for other in (
            [1, False], (1,), (1, False, False), (1, None), (None, False), ("1", False), (1, 0), (True, False),
            {1: False}, (), 1, (-1, False), (GREAT, False), ((1, False),), plain_house(),
        ):
            self.assert_wrong(HOUSE, journal + [("shown", (other, items[1]))], 2)
            self.assert_wrong(HOUSE, journal + [("shown", (items[0], other))], 2)
            self.assert_wrong(HOUSE, journal + [("shown", items + (other,))], 2)

    def test_another_moment(self):
        for house, journal in ((HOUSE, JOURNAL), (GUARDED, some_journal(GUARDED, 30, 5))):
            for at, entry in enumerate(journal):
                if entry[0] == "tick":
                    for moment in (REST, TAP, come(0), come(1), come(2), go(0), look(0), look(1), look(3)):
                        self.assert_judged(house, journal[:at] + [ticked(moment, entry[3])] + journal[at + 1:])
                    change, hand = entry[1:3]
                    for moment in (
                        (list(change), hand), (change, list(hand)), (None, hand), (change, None), (hand, change),
                        (change[0], hand), (change, hand[0]), (change + (0,), hand), (change, hand + (0,)),
                    ):
                        if moment != (change, hand):
                            other = ticked(moment, entry[3])
                            self.assert_wrong(house, journal[:at] + [other] + journal[at + 1:], at)

    def test_too_few_or_too_many_parts(self):
        for at, entry in enumerate(JOURNAL):
            others = [entry[:-1], entry + (None,), entry + ("",), entry + ((),), entry + entry, entry[1:], (), (entry,),
                      list(entry), [entry], {entry[0]: entry[1:]}, entry[0], (entry[0].upper(),) + entry[1:],
                      (entry[0] + " ",) + entry[1:], ([entry[0]],) + entry[1:], (None,) + entry[1:],
                      (plain_house(),) + entry[1:], ("redo",) + entry[1:]]
            others += [("tick",) + entry[1:]] if entry[0] != "tick" else [("shown",) + entry[1:], ("undo",) + entry[1:]]
            others += [("tick", entry[1:3], entry[3])] if entry[0] == "tick" else []
            for other in others:
                with self.subTest(at=at, other=other):
                    self.assert_wrong(HOUSE, JOURNAL[:at] + [other] + JOURNAL[at + 1:], at)

    def test_values_of_every_kind_as_entries(self):
        for value in kinds():
            for at in (0, 1, 5, 13):
                with self.subTest(value, at=at):
                    self.assert_wrong(HOUSE, JOURNAL[:at] + [value] + JOURNAL[at:], at)

    def test_an_undo_too_many(self):
        self.assert_wrong(HOUSE, [UNDO], 0)
        self.assert_wrong(HOUSE, [ticked(REST, ""), UNDO, UNDO], 2)
        self.assert_wrong(HOUSE, JOURNAL[:10] + [UNDO], 10)
        self.assert_wrong(HOUSE, [("shown", ()), UNDO, None], 1)

    def test_only_the_first_one_is_told(self):
        self.assert_wrong(HOUSE, JOURNAL[:3] + [None, UNDO, UNDO, UNDO, ("shown", None)], 3)
        self.assert_wrong(HOUSE, [ticked(REST, "ok"), None], 0)

    def test_values_that_are_no_list(self):
        for value in [value for value in kinds() if not isinstance(value, (list, tuple))] + [
            {0: UNDO}, dict(enumerate(JOURNAL)), "undo", "", Screen(HOUSE), None, True, 0,
        ]:
            with self.subTest(value):
                self.assertEqual(first_wrong(HOUSE, value), 0)
                self.assertIs(first_wrong(HOUSE, value).__class__, int)
                self.assert_error(BadJournal, "at", 0, replayed, HOUSE, value)

    def test_an_entry_alone_is_no_journal(self):
        for entry in JOURNAL:
            self.assert_wrong(HOUSE, entry, 0)

    def test_a_journal_hangs_on_its_house(self):
        for house in sampled_houses(6007):
            self.assert_judged(house, JOURNAL)
        self.assertEqual(first_wrong(GUARDED, JOURNAL), 3)


class Replayed(JournalTest):
    def test_the_screen_is_independent(self):
        journal = list(JOURNAL)
        one, other = replayed(HOUSE, journal), replayed(HOUSE, journal)
        self.assertTrue(one == other)
        one.tick(*REST)
        self.assertEqual(other.course, [come(1)])
        journal.clear()
        self.assertEqual(one.course, [come(1), REST])
        self.assert_right(HOUSE, JOURNAL, [come(1)])

    def test_undos_go_on_behind_it(self):
        screen = replayed(HOUSE, JOURNAL[:5])
        screen.undo()
        screen.undo()
        self.assertEqual(screen, Screen(HOUSE))
        self.assertEqual(replayed(HOUSE, JOURNAL), replayed(HOUSE, [ticked(come(1), "")]))

    def test_it_is_in_no_block(self):
        screen = replayed(HOUSE, JOURNAL)
        with self.assertRaises(KeyError), screen:
            screen.undo()
            raise KeyError
        self.assertEqual(screen.course, [come(1)])


class Calls(JournalTest):
    def test_no_house(self):
        for journal in ([], JOURNAL, [None], None):
            for work in (first_wrong, replayed):
                self.assert_bad_house(work, journal)

    def test_the_first_error_applies(self):
        for value in not_houses():
            for work in (first_wrong, replayed):
                self.assert_error(BadHouse, "part", "house", work, value, value)

    def test_by_name(self):
        self.assertIsNone(first_wrong(journal=JOURNAL, house=HOUSE))
        self.assertEqual(first_wrong(HOUSE, journal=[UNDO]), 0)
        self.assertEqual(replayed(journal=JOURNAL, house=HOUSE).course, [come(1)])

    def test_what_is_passed_stays_as_it_is(self):
        for journal in (JOURNAL, JOURNAL[:4] + [["undo"]], [("shown", [[0, False]])], [[], {}], [UNDO]):
            journal = list(journal)
            same = copy.deepcopy(journal)
            first_wrong(HOUSE, journal)
            try:
                replayed(HOUSE, journal)
            except BadJournal:
                pass
            self.assertEqual(journal, same)

    def test_equal_arguments_give_equal_results(self):
        first = (first_wrong(GUARDED, JOURNAL), replayed(HOUSE, JOURNAL))
        for seed, house in enumerate(sampled_houses(20011)):
            first_wrong(house, some_journal(house, 10, seed))
        again = house_of(*ten_of(GUARDED))
        self.assertEqual((first_wrong(again, list(JOURNAL)), replayed(HOUSE, tuple(JOURNAL))), first)


if __name__ == "__main__":
    unittest.main()
