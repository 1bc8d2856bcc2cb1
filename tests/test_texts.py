"""Promise [130], and what [2], [3] and [4] say of it, for undertap.texts."""

import copy
import itertools
import random
import unittest

from tests.kinds import GREAT, ErrorTest, kinds, not_houses, plain_house
from tests.samples import (
    ALL, CROWDED, NONE, REST, TAP, come, go, house_of, house_with, look, sampled_houses, some_course, ten_of,
)
from undertap.courses import is_course
from undertap.errors import BadHouse, BadMoment, BadText
from undertap.houses import House
from undertap.texts import course_text, house_text, read_course, read_house
from undertap.ticks import first_standing, moments_at, tick_at

HOUSE = house_of("front", 0, 1, 2, 3, 4, 1, 2, True, (1, 3))
HOUSE_TEXT = "rule front 0 1 2 3\nroom 4\ntop 1\nmany 2\ngoes yes\nlag 1 3\n"
COURSE = [come(0, ("look", 0)), come(1), (("go", 0), ("tap",)), REST, look(0)]
COURSE_TEXT = "come 0; look 0\ncome 1; none\ngo 0; tap\nnone; none\nnone; look 0\n"
SIGNS = [chr(number) for number in range(32, 127)] + ["\n"]
# All lines that can stand at each place of the text of a house.
RIGHT_LINES = (
    {" ".join(("rule", way, *five)) for way in ALL["way"] for five in itertools.product("0123", "0123", "012", "0123")},
    {"room 1", "room 2", "room 3", "room 4"},
    {"top 0", "top 1", "top 2"},
    {"many 1", "many 2"},
    {"goes yes", "goes no"},
    {"lag 1 1", "lag 1 2", "lag 1 3", "lag 2 2", "lag 2 3", "lag 3 3"},
)


def split(text):
    """The lines of a text, and whether the last one has its line feed."""
    lines = text.split("\n")
    return (lines[:-1], True) if lines[-1] == "" else (lines, False)


def wrong_line_of_house(text):
    """The number of the line that is told for the text of a house, None if it is right."""
    lines, is_ended = split(text)
    for at, line in enumerate(lines):
        if at >= 6 or line not in RIGHT_LINES[at]:
            return at
    return len(lines) if len(lines) < 6 or not is_ended else None


def moment_text(moment):
    return "; ".join(" ".join(str(word) for word in words) for words in moment)


def read_by_moments(house, text):
    """The number of the line that is told for the text of a course, None if it is right, and the moments ahead."""
    lines, is_ended = split(text)
    course, standing = [], first_standing(house)
    for at, line in enumerate(lines):
        can_come = {moment_text(moment): moment for moment in moments_at(house, standing)}
        if line not in can_come:
            return at, course
        course.append(can_come[line])
        standing, _ = tick_at(house, standing, can_come[line])
    return (len(lines) if lines and not is_ended else None), course


def changed_texts(text, seed, many):
    """Texts that differ from this one by a sign or a line, so many for each way in which they do."""
    source, lines = random.Random(seed), split(text)[0]
    for _ in range(many):
        at, sign = source.randrange(len(text) + 1), source.choice(SIGNS)
        yield text[:at] + sign + text[at:]
        yield text[:at] + sign + text[at + 1:]
        yield text[:at] + text[at + 1:]
        yield text[:at]
        yield text[:at] + text[at:at + 1] + text[at:]
        one, other = source.randrange(len(lines) + 1), source.randrange(len(lines) + 1)
        rows = lines[:one] + lines[other:]
        yield "".join(f"{line}\n" for line in rows)
        yield "\n".join(rows)
        rows = lines[:one] + lines[other:other + 1] + lines[one:]
        yield "".join(f"{line}\n" for line in rows)
        rows = lines[:one] + [source.choice(("", " ", "none", "none; none", "room 1", "none; tap", "x"))] + lines[one:]
        yield "".join(f"{line}\n" for line in rows)


class TextTest(ErrorTest):
    def assert_read_house(self, text, line):
        """That this line is told, or none if the text is right."""
        if line is None:
            self.assertEqual(house_text(read_house(text)), text)
        else:
            self.assert_error(BadText, "line", line, read_house, text)

    def assert_read_course(self, house, text, line):
        if line is None:
            course = read_course(house, text)
            self.assertIs(course.__class__, list)
            self.assertIs(is_course(house, course), True)
            self.assertEqual(course_text(house, course), text)
        else:
            self.assert_error(BadText, "line", line, read_course, house, text)


class Houses(TextTest):
    def test_by_hand(self):
        self.assertEqual(house_text(HOUSE), HOUSE_TEXT)
        self.assertEqual(read_house(HOUSE_TEXT), HOUSE)
        self.assertEqual(house_text(house_with()), "rule end 0 0 0 0\nroom 2\ntop 1\nmany 1\ngoes no\nlag 1 1\n")

    def test_each_house_written_and_read(self):
        for house in sampled_houses(101):
            way, still, hold, pins, guard, room, top, many, goes, lag = ten_of(house)
            text = (f"rule {way} {still} {hold} {pins} {guard}\nroom {room}\ntop {top}\nmany {many}\n"
                    f"goes {'yes' if goes else 'no'}\nlag {lag[0]} {lag[1]}\n")
            self.assertEqual(house_text(house), text)
            found = read_house(text)
            self.assertIsInstance(found, House)
            self.assertEqual(found, house)
            self.assertEqual(repr(ten_of(found)), repr(ten_of(house)))
            self.assertIsNone(wrong_line_of_house(text))

    def test_each_right_line(self):
        lines = split(HOUSE_TEXT)[0]
        for at, right in enumerate(RIGHT_LINES):
            for line in right:
                text = "".join(f"{row}\n" for row in lines[:at] + [line] + lines[at + 1:])
                self.assertEqual(house_text(read_house(text)), text)

    def test_each_line_with_one_sign_otherwise(self):
        for at in range(len(HOUSE_TEXT)):
            for sign in SIGNS:
                text = HOUSE_TEXT[:at] + sign + HOUSE_TEXT[at + 1:]
                self.assert_read_house(text, wrong_line_of_house(text))

    def test_each_line_with_a_sign_put_in_or_left_out(self):
        for at in range(len(HOUSE_TEXT) + 1):
            text = HOUSE_TEXT[:at] + HOUSE_TEXT[at + 1:]
            self.assert_read_house(text, wrong_line_of_house(text))
            for sign in SIGNS:
                text = HOUSE_TEXT[:at] + sign + HOUSE_TEXT[at:]
                self.assert_read_house(text, wrong_line_of_house(text))

    def test_texts_of_many_houses_with_changes(self):
        right = 0
        for seed, house in enumerate(sampled_houses(6007)):
            for text in changed_texts(house_text(house), seed, 20):
                line = wrong_line_of_house(text)
                self.assert_read_house(text, line)
                right += line is None
        self.assertGreater(right, 0)

    def test_each_line_with_one_word_otherwise(self):
        lines = split(HOUSE_TEXT)[0]
        others = [
            "", "-1", "+1", "01", "1.0", "1 ", "00", "4", "5", "9", "10", "true", "True", "yes", "no", "Yes", "None",
            "end", "front", "rank", "End", "ends", "rule", "room", "top", "many", "goes", "lag", "0x1", "1_0", "one",
            "(1,", "none", "9" * 50, "1" * 999,
        ]
        for at, line in enumerate(lines):
            words = line.split(" ")
            for place, word in enumerate(words):
                for other in others:
                    changed = [*words[:place], other, *words[place + 1:]]
                    text = "\n".join(lines[:at] + [" ".join(changed)] + lines[at + 1:]) + "\n"
                    expected = None if " ".join(changed) in RIGHT_LINES[at] else at
                    self.assert_read_house(text, expected)
                for changed in (words[:place] + words[place + 1:], words[:place] + [word] + words[place:]):
                    text = "\n".join(lines[:at] + [" ".join(changed)] + lines[at + 1:]) + "\n"
                    self.assert_read_house(text, at)

    def test_numbers_beyond_their_bounds(self):
        lines = split(HOUSE_TEXT)[0]
        for at, line in (
            (0, "rule front 4 1 2 3"), (0, "rule front 0 4 2 3"), (0, "rule front 0 1 3 3"), (0, "rule front 0 1 2 4"),
            (0, "rule back 0 1 2 3"), (0, "rule front 0 1 2 -1"), (0, "rule front 0 1 2 03"),
            (0, "rule front 0 1 2 +3"), (0, "rule front 0 1 2 3 3"),
            (0, "rule front 0 1  2 3"), (0, " rule front 0 1 2 3"), (0, "rule front 0 1 2 3 "), (0, "rule front 0 1 2"),
            (1, "room 0"), (1, "room 5"), (1, "room 04"), (1, "room +4"), (1, "room  4"), (1, "room"), (1, "room 4 4"),
            (2, "top 3"), (2, "top -1"), (2, "top -0"), (3, "many 0"), (3, "many 3"), (4, "goes Yes"), (4, "goes 1"),
            (4, "goes True"), (4, "goes"), (4, "goes yes yes"), (5, "lag 0 1"), (5, "lag 1 4"), (5, "lag 2 1"),
            (5, "lag 3 2"), (5, "lag 1"), (5, "lag (1, 3)"), (5, "lag 1, 3"), (5, "lag 1 3 3"), (1, "Room 4"),
        ):
            with self.subTest(line):
                text = "\n".join(lines[:at] + [line] + lines[at + 1:]) + "\n"
                self.assert_read_house(text, at)
                # A later line that is wrong, too, is not told.
                self.assert_read_house("\n".join(lines[:at] + [line, "x"]), at)

    def test_lines_left_out_doubled_exchanged_and_put_in(self):
        lines = split(HOUSE_TEXT)[0]
        for at in range(6):
            self.assert_read_house("".join(f"{line}\n" for line in lines[:at] + lines[at + 1:]), at if at < 5 else 5)
            self.assert_read_house("".join(f"{line}\n" for line in lines[:at + 1] + lines[at:]), at + 1)
            for to in range(at):
                rows = list(lines)
                rows[at], rows[to] = rows[to], rows[at]
                self.assert_read_house("".join(f"{line}\n" for line in rows), to)
        for at in range(7):
            for line in ("", " ", "x", "rule", "room 9"):
                self.assert_read_house("".join(f"{row}\n" for row in lines[:at] + [line] + lines[at:]), at)

    def test_fewer_than_six_lines(self):
        lines = split(HOUSE_TEXT)[0]
        for many in range(6):
            self.assert_read_house("".join(f"{line}\n" for line in lines[:many]), many)
            # A line without its line feed counts.
            self.assert_read_house("\n".join(lines[:many]), many)

    def test_the_last_line_feed(self):
        self.assert_read_house(HOUSE_TEXT[:-1], 6)
        self.assert_read_house(HOUSE_TEXT, None)
        self.assert_read_house(HOUSE_TEXT + "\n", 6)
        self.assert_read_house(HOUSE_TEXT + "\n\n", 6)
        self.assert_read_house(HOUSE_TEXT[:-2], 5)

    def test_more_than_six_lines(self):
        for more in ("x", "x\n", " ", "lag 1 3\n", "lag 1 3", HOUSE_TEXT, "\n" * 100):
            self.assert_read_house(HOUSE_TEXT + more, 6)

    def test_empty_texts_and_lines(self):
        for text in ("", "\n", " ", "\n\n", "\n" + HOUSE_TEXT, "x", " \n"):
            self.assert_read_house(text, 0)

    def test_long_texts(self):
        self.assert_read_house("x" * 4000, 0)
        self.assert_read_house("rule front 0 1 2 " + "3" * 3900 + "\n", 0)
        self.assert_read_house(HOUSE_TEXT + "x\n" * 1900, 6)


class Courses(TextTest):
    def test_by_hand(self):
        self.assertEqual(course_text(HOUSE, COURSE), COURSE_TEXT)
        self.assertEqual(course_text(HOUSE, tuple(COURSE)), COURSE_TEXT)
        self.assertEqual(read_course(HOUSE, COURSE_TEXT), COURSE)

    def test_no_ticks(self):
        for house in sampled_houses(9973):
            self.assertEqual(course_text(house, []), "")
            self.assertEqual(course_text(house, ()), "")
            self.assertEqual(read_course(house, ""), [])
            self.assertIs(read_course(house, "").__class__, list)

    def test_written_and_read(self):
        for seed, house in enumerate(sampled_houses(1009)):
            course = some_course(house, 60, seed)
            text = "".join(f"{moment_text(moment)}\n" for moment in course)
            self.assertEqual(course_text(house, course), text)
            self.assertEqual(read_course(house, text), course)
            self.assertEqual(repr(read_course(house, text)), repr(course))

    def test_each_moment(self):
        for house in (HOUSE, CROWDED):
            for seed in range(5):
                course, standing = some_course(house, 10, seed), first_standing(house)
                for at, moment in enumerate(course):
                    for other in moments_at(house, standing):
                        text = course_text(house, course[:at] + [other])
                        self.assertEqual(text.split("\n")[at], moment_text(other))
                        self.assertEqual(read_course(house, text), course[:at] + [other])
                    standing, _ = tick_at(house, standing, moment)

    def test_one_sign_otherwise(self):
        for at in range(len(COURSE_TEXT) + 1):
            for sign in SIGNS:
                for behind in (at, at + 1):
                    text = COURSE_TEXT[:at] + sign + COURSE_TEXT[behind:]
                    self.assert_read_course(HOUSE, text, read_by_moments(HOUSE, text)[0])

    def test_texts_of_many_courses_with_changes(self):
        right = 0
        for seed, house in enumerate(sampled_houses(12007)):
            for text in changed_texts(course_text(house, some_course(house, 12, seed)), seed, 20):
                line, course = read_by_moments(house, text)
                self.assert_read_course(house, text, line)
                if line is None:
                    self.assertEqual(read_course(house, text), course)
                    right += 1
        self.assertGreater(right, 0)

    def test_lines_that_are_no_moments(self):
        for line in (
            "", " ", "none", "none;none", "none ;none", "none; none ", " none; none", "none;  none", "none ; none",
            "none; none; none", "None; none", "none; None", "none, none", "none none", "none; none;", "; none",
            "none; ", ";", "; ", "come; none", "come 0 0; none", "come  0; none", "come 00; none", "come +0; none",
            "come -0; none",
            "come 0", "come 0;", "come0; none", "0 come; none", "come a; none", "come True; none", "go; none",
            "tap; none", "tap; tap", "look 0; none", "none; come 0", "none; go 0", "none; look", "none; look 00",
            "none; look 0 0", "none; tap 0", "none 0; none", "none; none 0", "come 9; none", "come 2; none",
            "come 10; none", "come " + "0" * 99 + "; none", "come " + "9" * 999 + "; none", "none; look 10",
            "tick none; none", "(none,); (none,)", "come 0; look 4", "go 0; none", "none; tap", "none; look 0",
            "come 0; tap", "come 0; look 1", "x", "come 1 ; none", "come 1; look  0",
        ):
            with self.subTest(line):
                for end in ("\n", "\nnone; none\n", "\nx", "\n\n"):
                    self.assert_read_course(HOUSE, line + end, 0)
                    self.assert_read_course(HOUSE, f"none; none\n{line}{end}", 1)
                if line != "":
                    self.assert_read_course(HOUSE, line, 0)
                    self.assert_read_course(HOUSE, f"none; none\n{line}", 1)

    def test_moments_that_cannot_come_at_their_tick(self):
        lines = split(COURSE_TEXT)[0]
        for at in range(len(lines)):
            standing = first_standing(HOUSE)
            for moment in COURSE[:at]:
                standing, _ = tick_at(HOUSE, standing, moment)
            can_come = [moment_text(moment) for moment in moments_at(HOUSE, standing)]
            for line in (
                "none; tap", "none; look 0", "none; look 2", "go 0; none", "go 1; none", "go 9; tap", "come 2; none",
                "come 1; none", "come 0; tap", "come 0; look 3", "none; none",
            ):
                text = "".join(f"{row}\n" for row in lines[:at] + [line])
                self.assert_read_course(HOUSE, text, None if line in can_come else at)

    def test_the_last_line_feed(self):
        lines = split(COURSE_TEXT)[0]
        for many in range(1, 6):
            self.assert_read_course(HOUSE, "\n".join(lines[:many]), many)
            self.assert_read_course(HOUSE, "\n".join(lines[:many]) + "\n", None)
            self.assert_read_course(HOUSE, "\n".join(lines[:many]) + "\n\n", many)
        self.assert_read_course(HOUSE, "\n", 0)
        self.assert_read_course(HOUSE, "none; non", 0)

    def test_sixty_lines(self):
        text = "none; none\n" * 60
        self.assertEqual(read_course(HOUSE, text), [REST] * 60)
        self.assert_read_course(HOUSE, text[:-1], 60)
        self.assert_read_course(HOUSE, "none; none\n" * 59 + "none; tap\n", 59)

    def test_it_hangs_on_the_house(self):
        for house in sampled_houses(3001):
            line, _ = read_by_moments(house, COURSE_TEXT)
            self.assert_read_course(house, COURSE_TEXT, line)


class Errors(TextTest):
    def no_texts(self):
        return [value for value in kinds() if not isinstance(value, str)] + [
            [HOUSE_TEXT], (HOUSE_TEXT,), split(HOUSE_TEXT)[0], {HOUSE_TEXT: 1}, GREAT, HOUSE, COURSE,
        ]

    def test_no_texts(self):
        for value in self.no_texts():
            with self.subTest(value):
                self.assert_read_house(value, 0)
                self.assert_error(BadText, "line", 0, read_course, HOUSE, value)

    def test_texts_of_every_kind(self):
        for value in kinds():
            if isinstance(value, str):
                self.assert_read_house(value, wrong_line_of_house(value))
                self.assert_read_course(HOUSE, value, read_by_moments(HOUSE, value)[0])

    def test_no_house(self):
        self.assert_bad_house(house_text)
        for value in ("", COURSE_TEXT, "x", None):
            self.assert_bad_house(read_course, value)
        for value in ([], COURSE, [None], None):
            self.assert_bad_house(course_text, value)

    def test_no_course(self):
        for value in kinds():
            if not isinstance(value, (list, tuple)):
                self.assert_error(BadMoment, "at", None, course_text, HOUSE, value)
            elif len(value) > 0:
                self.assert_error(BadMoment, "at", 0, course_text, HOUSE, value)
            for at in (0, 2, 5):
                self.assert_error(BadMoment, "at", at, course_text, HOUSE, COURSE[:at] + [value] + COURSE[at:])
        for at in (0, 3, 4):
            self.assert_error(BadMoment, "at", at, course_text, HOUSE, COURSE[:at] + [TAP, None])
        self.assert_error(BadMoment, "at", 0, course_text, HOUSE, [(("come", False), NONE)])
        self.assert_error(BadMoment, "at", 0, course_text, HOUSE, [go(0), None])
        self.assert_error(BadMoment, "at", None, course_text, HOUSE, COURSE_TEXT)

    def test_the_first_error_applies(self):
        for value in not_houses():
            self.assert_error(BadHouse, "part", "house", course_text, value, value)
            self.assert_error(BadHouse, "part", "house", read_course, value, value)


class Calls(TextTest):
    def test_by_name(self):
        self.assertEqual(house_text(house=HOUSE), HOUSE_TEXT)
        self.assertEqual(read_house(text=HOUSE_TEXT), HOUSE)
        self.assertEqual(course_text(course=COURSE, house=HOUSE), COURSE_TEXT)
        self.assertEqual(read_course(text=COURSE_TEXT, house=HOUSE), COURSE)
        self.assertEqual(read_course(HOUSE, text=""), [])

    def test_what_is_passed_stays_as_it_is(self):
        for course in (list(COURSE), [list(moment) for moment in COURSE], [None]):
            same = copy.deepcopy(course)
            try:
                course_text(HOUSE, course)
            except BadMoment:
                pass
            self.assertEqual(course, same)

    def test_what_is_returned_may_be_changed(self):
        read_course(HOUSE, COURSE_TEXT).clear()
        read_course(HOUSE, "").append(None)
        self.assertEqual(read_course(HOUSE, COURSE_TEXT), COURSE)
        self.assertEqual(read_course(HOUSE, ""), [])

    def test_equal_arguments_give_equal_results(self):
        for house in sampled_houses(20011) + [plain_house()]:
            self.assertEqual(read_house(house_text(house)), house)
        self.assertEqual((house_text(HOUSE), course_text(HOUSE, COURSE)), (HOUSE_TEXT, COURSE_TEXT))
        self.assertEqual((read_house(HOUSE_TEXT), read_course(HOUSE, COURSE_TEXT)), (HOUSE, COURSE))


if __name__ == "__main__":
    unittest.main()
