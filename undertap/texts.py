"""Texts: houses and courses, written and read."""

from undertap.courses import checked_steps, steps_along
from undertap.errors import BadHouse, BadRule, BadText
from undertap.houses import House, check_house
from undertap.rules import Rule

FIGURES = "0123456789"
# The first word of a change or a hand, and how many words its text has.
CHANGES = (("none", 1), ("come", 2), ("go", 2))
HANDS = (("none", 1), ("look", 2), ("tap", 1))
# The lines of a house, in the order of its parameters: the first word, and how many words there are.
LINES = (("rule", 6), ("room", 2), ("top", 2), ("many", 2), ("goes", 2), ("lag", 3))
BOOLS = {"yes": True, "no": False}


def is_figure(word):
    """Whether the word is a single figure."""
    return len(word) == 1 and word in FIGURES


def words_text(words):
    """The text of the words of a change or a hand."""
    return " ".join([str(word) for word in words])


def moment_text(moment):
    """The text of a moment."""
    change, hand = moment
    return f"{words_text(change)}; {words_text(hand)}"


def read_words(text, forms):
    """The change or the hand of one of these forms with exactly this text; None if there is none."""
    words = text.split(" ")
    if (words[0], len(words)) not in forms:
        return None
    if len(words) == 1:
        return (words[0],)
    return (words[0], int(words[1])) if is_figure(words[1]) else None


def read_moment(text):
    """The pair of the change and the hand with exactly this text; None if there is none."""
    parts = text.split("; ")
    if len(parts) != 2:
        return None
    change = read_words(parts[0], CHANGES)
    hand = read_words(parts[1], HANDS)
    return None if change is None or hand is None else (change, hand)


def lines_of(text):
    """The lines of a text, without their line feeds; the last line may lack it."""
    lines = text.split("\n")
    return lines[:-1] if lines[-1] == "" else lines


def house_lines(house):
    """The six lines of a house."""
    rule = house.rule
    least, most = house.lag
    return [
        f"rule {rule.way} {rule.still} {rule.hold} {rule.pins} {rule.guard}",
        f"room {house.room}",
        f"top {house.top}",
        f"many {house.many}",
        "goes yes" if house.goes else "goes no",
        f"lag {least} {most}",
    ]


def house_text(house):
    """The text of a house."""
    check_house(house)
    return "".join([f"{line}\n" for line in house_lines(house)])


def value_of(word):
    """What a word of a house tells: a number, a bool, or a text, which is the word itself."""
    if is_figure(word):
        return int(word)
    return BOOLS.get(word, word)


def part_of(name, words):
    """The part of a house that the line of this name tells, by its other words; BadRule if they tell no rule."""
    values = [value_of(word) for word in words]
    if name == "rule":
        way, still, hold, pins, guard = values
        return Rule(way, still, hold, pins, guard)
    return tuple(values) if name == "lag" else values[0]


def house_of(parts):
    """The house of its six parts; BadHouse if one of them is none."""
    rule, room, top, many, goes, lag = parts
    return House(rule, room, top, many, goes, lag)


def with_line(parts, at, line):
    """The six parts of a house with the one of this number as the line tells it; None if it tells none."""
    if at >= len(LINES):
        return None
    name, many = LINES[at]
    words = line.split(" ")
    if words[0] != name or len(words) != many:
        return None
    # What is right here is what Rule and House take.
    try:
        changed = parts[:at] + [part_of(name, words[1:])] + parts[at + 1:]
        house_of(changed)
    except (BadRule, BadHouse):
        return None
    return changed


def read_house(text):
    """The house with exactly this text."""
    if not isinstance(text, str):
        raise BadText(0)
    lines = lines_of(text)
    parts = [Rule("end", 0, 0, 0, 0), 1, 0, 1, False, (1, 1)]
    for at, line in enumerate(lines):
        parts = with_line(parts, at, line)
        if parts is None:
            raise BadText(at)
    if len(lines) < len(LINES) or not text.endswith("\n"):
        raise BadText(len(lines))
    return house_of(parts)


def course_text(house, course):
    """The text of a course."""
    checked_steps(house, course)
    return "".join([f"{moment_text(moment)}\n" for moment in course])


def read_course(house, text):
    """The course with exactly this text."""
    check_house(house)
    if not isinstance(text, str):
        raise BadText(0)
    lines = lines_of(text)
    # A line that is no moment is read as None, which cannot come.
    course = [read_moment(line) for line in lines]
    good = len(steps_along(house, course))
    if good < len(lines) or (lines and not text.endswith("\n")):
        raise BadText(good)
    return course
