"""Promise [131], and what [2], [3] and [4] say of it, for undertap.desk."""

import random
import unittest

from tests.kinds import GREAT, ErrorTest, ObjectTest, kinds, plain_house
from tests.samples import CROWDED, JUST_801, house_of, house_with, sampled_houses, ten_of
from undertap.desk import Desk
from undertap.errors import BadText, NothingDone, TooMany
from undertap.screen import Screen
from undertap.texts import course_text, house_text
from undertap.ticks import moments_at
from undertap.waits import most_of
from undertap.wishes import breaker_of

HOUSE = house_of("front", 0, 0, 0, 0, 2, 1, 1, True, (1, 2))
GUARDED = house_of("front", 1, 1, 1, 2, 3, 1, 2, True, (2, 3))
TEXT = "rule front 0 0 0 0\nroom 2\ntop 1\nmany 1\ngoes yes\nlag 1 2\n"
WISHES = ("back", "empty", "gone", "other")
UNKNOWN = "not understood"
ASKED = ("shown", "ahead", "ticks")


def desk_of(house):
    return Desk(house_text(house))


def asked(desk):
    """All that a desk tells of its screen."""
    return [desk.reply(line) for line in ASKED]


def expected(screen):
    """What a desk must tell of such a screen."""
    items = " ".join(str(rank) + "!" * gone for rank, gone in screen.shown)
    return [items or "none", " ".join(screen.outcomes_ahead()) or "none", str(len(screen.course))]


def text_of(moment):
    return "; ".join(" ".join(str(word) for word in words) for words in moment)


def not_understood():
    """Values that have none of the forms of a line."""
    lines = [
        "", " ", "\n", "x", "tick", "tick ", "tick none", "tick none;", "tick none; ", "tick none; none ",
        " tick none; none", "tick  none; none", "tick none;none", "tick none ; none", "tick none;  none",
        "tick none; none\n", "Tick none; none", "tick\nnone; none", "tick come 0", "tick come 10; none",
        "tick come 00; none", "tick come -1; none", "tick go; none", "tick come; none", "tick come +1; none",
        "tick come a; none", "tick come 0 0; none", "tick come  0; none",
        "tick look 0; none", "tick none; come 0", "tick none; look", "tick none; look 10", "tick none; look a",
        "tick none; tap 0", "tick none 0; none", "tick tap; none", "tick none; none; none", "ticknone; none",
        "none; none", "tick tick none; none", "tick come 0.; none", "tick come 0; looks 0", "tick comes 0; none",
        "undo ", " undo", "undo 1", "undo undo", "Undo", "UNDO", "und", "undo\n", "undos", "undo;",
        "shown ", " shown", "shown 0", "Shown", "show", "shown\n", "showns",
        "ahead ", " ahead", "ahead 1", "Ahead", "aheads", "ahead\n",
        "ticks ", " ticks", "ticks 1", "Ticks", "ticks\n", "tickss",
        "wish", "wish ", "wish right", "wish Back", "wish  back", "wish back ", "wish back other", "wish wait",
        "wish 1", " wish back", "Wish back", "wish\nback", "wish back\n", "wishback", "wishes back",
        "wish 'back'", "wish none",
        "most", "most ", "most other", "most Wait", "most  wait", "most wait ", "most wait back", "most right",
        "most 1", " most wait", "Most wait", "most\nwait", "most wait\n", "mostwait", "most empty", "most gone",
        "back", "wait", "holds", "ever", "ok", "none", "error", "house", "copy", "help", "undo shown", "shown\nshown",
        "wish " + "back" * 900, "x" * 4000, " " * 4000, "tick come " + "1" * 3900 + "; none",
    ]
    values = [value for value in kinds() if not isinstance(value, str)]
    return lines + values + [value for value in kinds() if isinstance(value, str)] + [
        ["undo"], ("undo",), {"undo": 1}, ("tick", ("none",), ("none",)), GREAT, plain_house(), Screen(HOUSE),
        desk_of(HOUSE), b"undo",
    ]


class DeskTest(ErrorTest):
    def assert_replies(self, desk, *pairs):
        for line, answer in pairs:
            self.assertEqual(desk.reply(line), answer, line)


class Replies(DeskTest):
    def test_each_form(self):
        self.assert_replies(
            Desk(TEXT),
            ("shown", "none"), ("ahead", "none"), ("ticks", "0"),
            ("tick come 0; look 0", "ok"), ("shown", "0"), ("ahead", "empty other right"), ("ticks", "1"),
            ("tick come 1; none", "ok"), ("shown", "1 0"), ("ahead", "other right"), ("ticks", "2"),
            ("tick none; tap", "other"), ("shown", "1 0"), ("ahead", "none"), ("ticks", "3"),
            ("undo", "ok"), ("tick go 0; tap", "right"), ("shown", "0"), ("ticks", "3"),
            ("undo", "ok"), ("undo", "ok"), ("undo", "ok"), ("undo", "error NothingDone"), ("ticks", "0"),
            ("wish other", "come 0; look 0, come 0; tap"), ("wish back", "holds"), ("most wait", "0"),
            ("most back", "0"),
        )

    def test_each_outcome(self):
        house = house_with(way="front", goes=True, still=1, guard=1, lag=(1, 2), top=2, room=3)
        desk = desk_of(house)
        for rows, outcome in (
            (("come 2; look 0", "none; tap"), "right"),
            (("come 2; look 0", "go 0; tap"), "gone"),
            (("come 2; look 0", "go 0; none", "none; tap"), "empty"),
            (("come 2; look 0", "come 1; none", "none; tap"), "back"),
            (("come 2; none", "none; look 0", "come 1; none", "none; tap"), "other"),
        ):
            for row in rows[:-1]:
                self.assert_replies(desk, ("tick " + row, "ok"))
            self.assert_replies(desk, ("tick " + rows[-1], outcome))
            self.assert_replies(desk, *[("undo", "ok")] * len(rows))

    def test_items_that_are_gone(self):
        desk = desk_of(house_with(goes=True, still=3, top=2, room=3))
        self.assert_replies(
            desk, ("tick come 2; none", "ok"), ("shown", "2"), ("tick go 0; none", "ok"), ("shown", "2!"),
            ("tick come 1; none", "ok"), ("tick none; none", "ok"), ("shown", "2!"), ("tick none; none", "ok"),
            ("shown", "1"), ("tick go 0; none", "ok"), ("shown", "1!"), ("undo", "ok"), ("shown", "1"),
        )
        desk = desk_of(house_with(goes=True, still=2, top=2, room=3, many=2))
        for line in ("come 0; none", "come 1; none", "come 2; none", "none; none", "go 1; none"):
            self.assert_replies(desk, ("tick " + line, "ok"))
        self.assert_replies(desk, ("shown", "0 1! 2"))

    def test_rows_of_lines(self):
        for seed, house in enumerate(sampled_houses(3001)):
            source, desk, screen = random.Random(seed), desk_of(house), Screen(house)
            for _ in range(30):
                deed = source.choice(("tick", "tick", "tick", "undo", "refused"))
                if deed == "tick":
                    moment = source.choice(moments_at(house, screen.standing))
                    self.assert_replies(desk, (f"tick {text_of(moment)}", screen.tick(*moment) or "ok"))
                elif deed == "undo":
                    try:
                        screen.undo()
                        self.assert_replies(desk, ("undo", "ok"))
                    except NothingDone:
                        self.assert_replies(desk, ("undo", "error NothingDone"))
                else:
                    row = source.choice(("none; tap", "none; look 0", "go 3; none", "come 9; none", "go 0; look 9"))
                    if row not in [text_of(moment) for moment in moments_at(house, screen.standing)]:
                        self.assert_replies(desk, (f"tick {row}", "error BadMoment"))
                self.assertEqual(asked(desk), expected(screen), (ten_of(house), screen.course))

    def test_wishes_and_measures(self):
        answers = set()
        for house in sampled_houses(1511):
            desk = desk_of(house)
            for wish in WISHES:
                try:
                    breaker = breaker_of(house, wish)
                    answer = "holds" if breaker is None else course_text(house, breaker)[:-1].replace("\n", ", ")
                except TooMany:
                    answer = "error TooMany"
                self.assert_replies(desk, (f"wish {wish}", answer))
                answers.add(answer[:6])
            for measure in ("wait", "back"):
                try:
                    most = most_of(house, measure)
                    answer = "ever" if most is None else str(most)
                except TooMany:
                    answer = "error TooMany"
                self.assert_replies(desk, (f"most {measure}", answer))
                answers.add(answer[:6])
            self.assertEqual(asked(desk), ["none", "none", "0"])
        for answer in ("holds", "error ", "ever", "0", "3", "come 0"):
            self.assertIn(answer, answers)

    def test_wishes_and_measures_hang_on_the_house_alone(self):
        desk = desk_of(house_with(way="front", top=0, guard=1))
        for line in ("come 0; look 0", "come 0; tap", "none; look 1", "none; none"):
            self.assert_replies(
                desk, ("wish other", "holds"), ("wish back", "come 0; look 0, come 0; tap"), ("most back", "ever"),
                ("most wait", "0"),
            )
            desk.reply("tick " + line)


class Refused(DeskTest):
    def test_values_that_have_no_form(self):
        desk, fresh = Desk(TEXT), Desk(TEXT)
        for line in ("tick come 0; look 0", "tick come 1; none"):
            desk.reply(line)
        before = asked(desk)
        for value in not_understood():
            with self.subTest(value):
                self.assertEqual(desk.reply(value), UNKNOWN)
                self.assertEqual(fresh.reply(value), UNKNOWN)
        self.assertEqual(asked(desk), before)
        self.assertEqual(asked(fresh), ["none", "none", "0"])

    def test_not_understood_where_too_many_come(self):
        desk = desk_of(CROWDED)
        for line in ("wish right", "most other", "wish", "most", "wish ", "most ", "wish wait", "most back "):
            self.assert_replies(desk, (line, UNKNOWN))

    def test_moments_that_cannot_come(self):
        desk = Desk(TEXT)
        for row in (
            "none; tap", "none; look 0", "go 0; none", "come 2; none", "come 9; none", "go 9; look 9", "come 0; tap",
            "come 0; look 1", "come 0; look 9", "none; look 9", "go 0; tap", "come 3; tap",
        ):
            self.assert_replies(desk, ("tick " + row, "error BadMoment"))
            self.assertEqual(asked(desk), ["none", "none", "0"])
        self.assert_replies(desk, ("tick come 0; look 0", "ok"), ("tick none; none", "ok"))
        before = asked(desk)
        # Now the tap must come.
        for row in ("none; none", "come 0; none", "none; look 0", "go 0; look 0", "go 1; tap"):
            self.assert_replies(desk, ("tick " + row, "error BadMoment"))
            self.assertEqual(asked(desk), before)
        self.assert_replies(desk, ("tick come 0; tap", "other"))

    def test_nothing_done(self):
        desk = Desk(TEXT)
        self.assert_replies(desk, ("undo", "error NothingDone"), ("undo", "error NothingDone"))
        self.assert_replies(desk, ("tick come 1; none", "ok"), ("undo", "ok"), ("undo", "error NothingDone"))
        self.assertEqual(asked(desk), ["none", "none", "0"])

    def test_too_many(self):
        for house in [CROWDED] + [house_of(*ten) for ten in JUST_801]:
            desk = desk_of(house)
            desk.reply("tick come 0; look 0")
            before = asked(desk)
            for wish in WISHES:
                self.assert_replies(desk, (f"wish {wish}", "error TooMany"))
            self.assert_replies(desk, ("most wait", "error TooMany"), ("most back", "error TooMany"))
            self.assertEqual(asked(desk), before)
            self.assertEqual(before[2], "1")


class Desks(DeskTest, ObjectTest):
    def test_two_are_independent(self):
        one, other = Desk(TEXT), Desk(TEXT)
        one.reply("tick come 0; look 0")
        self.assertEqual(asked(other), ["none", "none", "0"])
        other.reply("tick come 1; none")
        other.reply("tick come 1; none")
        self.assertEqual(asked(one), ["0", "empty other right", "1"])
        self.assertEqual(asked(other), ["1 1", "none", "2"])

    def test_sixty_ticks(self):
        desk = desk_of(GUARDED)
        for many in range(60):
            self.assert_replies(desk, ("tick none; none", "ok"), ("ticks", str(many + 1)))
        for many in range(59, -1, -1):
            self.assert_replies(desk, ("undo", "ok"), ("ticks", str(many)))
        self.assert_replies(desk, ("undo", "error NothingDone"))

    def test_wrong_texts(self):
        for line, text in (
            (0, ""), (0, "x"), (0, "\n"), (1, TEXT[:19]), (6, TEXT[:-1]), (6, TEXT + "\n"),
            (5, TEXT.replace("1 2", "2 1")), (1, TEXT.replace("room 2", "room 5")),
            (0, TEXT.replace("front", "back")), (4, TEXT.replace("yes", "Yes")),
        ):
            self.assert_error(BadText, "line", line, Desk, text)
        for value in kinds() + [TEXT.split("\n"), (TEXT,), house_with(), HOUSE]:
            self.assert_error(BadText, "line", 0, Desk, value)

    def test_by_name(self):
        desk = Desk(text=TEXT)
        self.assertEqual(desk.reply(line="tick come 0; look 0"), "ok")
        self.assertEqual(desk.reply(line=None), UNKNOWN)

    def test_a_desk_cannot_be_iterated_over(self):
        self.assert_not_iterable(Desk(TEXT))

    def test_apart_from_values_of_other_kinds(self):
        desk = Desk(TEXT)
        self.assertTrue(desk == desk)
        for other in kinds() + [TEXT, HOUSE, Screen(HOUSE), [desk], (desk,)]:
            self.assert_apart(desk, other)

    def test_kinds_of_what_is_given(self):
        desk = Desk(TEXT)
        for line in ASKED + ("undo", "tick none; none", "wish back", "wish other", "most wait", "x", None):
            self.assertIs(desk.reply(line).__class__, str)


if __name__ == "__main__":
    unittest.main()
