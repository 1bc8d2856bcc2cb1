"""Houses for the tests, and courses of them."""

import itertools
import random

from undertap.houses import House
from undertap.rules import Rule
from undertap.ticks import first_standing, moments_at, tick_at

PLAIN = {
    "way": "end", "still": 0, "hold": 0, "pins": 0, "guard": 0,
    "room": 2, "top": 1, "many": 1, "goes": False, "lag": (1, 1),
}
ALL = {
    "way": ("end", "front", "rank"), "still": (0, 1, 2, 3), "hold": (0, 1, 2, 3), "pins": (0, 1, 2),
    "guard": (0, 1, 2, 3), "room": (1, 2, 3, 4), "top": (0, 1, 2), "many": (1, 2), "goes": (False, True),
    "lag": ((1, 1), (1, 2), (1, 3), (2, 2), (2, 3), (3, 3)),
}
NONE = ("none",)
REST = (NONE, NONE)
TAP = (NONE, ("tap",))
# Houses in which just 800 standings come, and just 801.
JUST_800 = (
    ("end", 1, 2, 0, 0, 2, 2, 1, True, (3, 3)),
    ("rank", 0, 1, 0, 1, 3, 2, 2, True, (2, 3)),
    ("rank", 1, 0, 2, 0, 4, 1, 2, True, (1, 1)),
    ("front", 1, 2, 1, 0, 2, 2, 1, True, (3, 3)),
)
JUST_801 = (
    ("end", 0, 3, 0, 3, 2, 1, 1, True, (2, 3)),
    ("rank", 0, 2, 1, 0, 4, 1, 2, False, (1, 3)),
    ("front", 0, 1, 0, 3, 2, 2, 2, True, (2, 3)),
    ("rank", 3, 1, 1, 0, 4, 1, 1, False, (1, 1)),
)


def house_of(way, still, hold, pins, guard, room, top, many, goes, lag):
    return House(Rule(way, still, hold, pins, guard), room, top, many, goes, lag)


def house_with(**parts):
    """The plain house, with these parts otherwise."""
    return house_of(**dict(PLAIN, **parts))


# Far more than 800 standings come in it.
CROWDED = house_of("rank", 3, 3, 2, 3, 4, 2, 2, True, (1, 3))
# No item is ever gone in it, and few of its forms come.
WIDE = house_with(way="front", guard=1, still=1, hold=1, lag=(1, 3))


def ten_of(house):
    """What house_of makes this house of."""
    rule = house.rule
    five = (rule.way, rule.still, rule.hold, rule.pins, rule.guard)
    return five + (house.room, house.top, house.many, house.goes, house.lag)


def sampled_houses(stride, **parts):
    """Each house at so great a stride among all of them, or among all with these parts."""
    choices = {**ALL, **{name: (value,) for name, value in parts.items()}}
    return [house_of(*ten) for ten in itertools.islice(itertools.product(*choices.values()), 0, None, stride)]


def items_of(*ranks, stood=0):
    """Items of a standing, none of them gone."""
    return tuple((rank, False, stood) for rank in ranks)


def come(rank, hand=NONE):
    return (("come", rank), hand)


def go(place, hand=NONE):
    return (("go", place), hand)


def look(place, change=NONE):
    return (change, ("look", place))


def some_course(house, ticks, seed):
    """A course of so many ticks, with looks and taps wherever the seed has them."""
    source = random.Random(seed)
    course, standing = [], first_standing(house)
    for _ in range(ticks):
        moment = source.choice(moments_at(house, standing))
        course.append(moment)
        standing, _ = tick_at(house, standing, moment)
    return course


def searched(house, most=10 ** 6):
    """How many ticks are needed to each standing that comes, by moments_at and tick_at alone; None if too many come."""
    far = {first_standing(house): 0}
    rows = list(far)
    for standing in rows:
        for moment in moments_at(house, standing):
            behind, _ = tick_at(house, standing, moment)
            if behind not in far:
                far[behind] = far[standing] + 1
                rows.append(behind)
        if len(far) > most:
            return None
    return far


def small_houses(stride, most=800, **parts):
    """Houses in which at most so many standings come, each with how far these are."""
    for house in sampled_houses(stride, **parts):
        far = searched(house, most)
        if far is not None:
            yield house, far


def led_to(house, standings, known=()):
    """The standings, and all to which ticks lead from them, without those that are known."""
    rows = [standing for standing in standings if standing not in known]
    for standing in rows:
        for moment in moments_at(house, standing):
            behind, _ = tick_at(house, standing, moment)
            if behind not in rows and behind not in known:
                rows.append(behind)
    return rows


def forms_of(house):
    """The standings of the right form of a house without goings that shows two items and in which few wait."""
    items = list(itertools.product(range(house.top + 1), (False,), range(house.rule.guard + 1)))
    for many, waiting, quiet in itertools.product((0, 1, 2), ((), (0,), (1,)), range(house.rule.still + 1)):
        looks = [()] + list(itertools.product(range(house.lag[1]), (0, 1), range(-1, many)))
        for shown, one in itertools.product(itertools.product(items, repeat=many), looks):
            yield (shown, waiting, quiet, one)


def closed_of(house, many):
    """A list of just so many different standings that has the first one and all to which they lead."""
    rows = led_to(house, [first_standing(house)])
    for standing in forms_of(house):
        known = dict.fromkeys(rows)
        new = led_to(house, [standing], known)
        if len(rows) + len(new) <= many:
            rows += new
    assert len(rows) == many == len(set(rows))
    return rows
