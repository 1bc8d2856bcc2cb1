"""Houses for the tests, and courses of them."""

import itertools
import random

from undertap.houses import House
from undertap.rules import Rule
from undertap.ticks import first_standing, moments_at, tick_at

PLAIN = {
    "way": "end", "still": 0, "hold": 0, "pins": 0, "guard": 0,
    "room": 2, "top": 1, "many": 1, "goes": False, "lag": (1, 1),
}
ALL = {
    "way": ("end", "front", "rank"), "still": (0, 1, 2, 3), "hold": (0, 1, 2, 3), "pins": (0, 1, 2),
    "guard": (0, 1, 2, 3), "room": (1, 2, 3, 4), "top": (0, 1, 2), "many": (1, 2), "goes": (False, True),
    "lag": ((1, 1), (1, 2), (1, 3), (2, 2), (2, 3), (3, 3)),
}
NONE = ("none",)
REST = (NONE, NONE)
TAP = (NONE, ("tap",))
# Houses in which just 800 standings come, and just 801.
JUST_800 = (
    ("end", 1, 2, 0, 0, 2, 2, 1, True, (3, 3)),
    ("rank", 0, 1, 0, 1, 3, 2, 2, True, (2, 3)),
    ("rank", 1, 0, 2, 0, 4, 1, 2, True, (1, 1)),
    ("front", 1, 2, 1, 0, 2, 2, 1, True, (3, 3)),
)
JUST_801 = (
    ("end", 0, 3, 0, 3, 2, 1, 1, True, (2, 3)),
    ("rank", 0, 2, 1, 0, 4, 1, 2, False, (1, 3)),
    ("front", 0, 1, 0, 3, 2, 2, 2, True, (2, 3)),
    ("rank", 3, 1, 1, 0, 4, 1, 1, False, (1, 1)),
)


def house_of(way, still, hold, pins, guard, room, top, many, goes, lag):
    return House(Rule(way, still, hold, pins, guard), room, top, many, goes, lag)


def house_with(**parts):
    """The plain house, with these parts otherwise."""
    return house_of(**dict(PLAIN, **parts))


def ten_of(house):
    """What house_of makes this house of."""
    rule = house.rule
    five = (rule.way, rule.still, rule.hold, rule.pins, rule.guard)
    return five + (house.room, house.top, house.many, house.goes, house.lag)


def sampled_houses(stride, **parts):
    """Each house at so great a stride among all of them, or among all with these parts."""
    choices = {**ALL, **{name: (value,) for name, value in parts.items()}}
    return [house_of(*ten) for ten in itertools.islice(itertools.product(*choices.values()), 0, None, stride)]


def items_of(*ranks, stood=0):
    """Items of a standing, none of them gone."""
    return tuple((rank, False, stood) for rank in ranks)


def come(rank, hand=NONE):
    return (("come", rank), hand)


def go(place, hand=NONE):
    return (("go", place), hand)


def look(place, change=NONE):
    return (change, ("look", place))


def some_course(house, ticks, seed):
    """A course of so many ticks, with looks and taps wherever the seed has them."""
    source = random.Random(seed)
    course, standing = [], first_standing(house)
    for _ in range(ticks):
        moment = source.choice(moments_at(house, standing))
        course.append(moment)
        standing, _ = tick_at(house, standing, moment)
    return course


def searched(house, most=10 ** 6):
    """How many ticks are needed to each standing that comes, by moments_at and tick_at alone; None if too many come."""
    far = {first_standing(house): 0}
    rows = list(far)
    for standing in rows:
        for moment in moments_at(house, standing):
            behind, _ = tick_at(house, standing, moment)
            if behind not in far:
                far[behind] = far[standing] + 1
                rows.append(behind)
        if len(far) > most:
            return None
    return far
