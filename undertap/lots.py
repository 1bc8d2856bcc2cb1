"""Least rules: the triples of stillness, hold and guard that keep wishes."""

from undertap.errors import BadWish
from undertap.houses import House, check_house
from undertap.reach import steps_of
from undertap.rules import MOST_TICKS, Rule, is_list, is_one_of
from undertap.wishes import WISHES


def check_wishes(house, wishes):
    """Raises BadHouse unless the first is a house, then BadWish unless the second is a list of different wishes."""
    check_house(house)
    if not is_list(wishes) or not 1 <= len(wishes) <= len(WISHES):
        raise BadWish(None)
    for at, wish in enumerate(wishes):
        if not is_one_of(wish, WISHES) or wish in wishes[:at]:
            raise BadWish(at)


def all_triples():
    """The ascending list of the triples (still, hold, guard)."""
    ticks = range(MOST_TICKS + 1)
    return [(still, hold, guard) for still in ticks for hold in ticks for guard in ticks]


def house_with(house, triple):
    """The house with this triple in the place of that of its rule."""
    still, hold, guard = triple
    rule = Rule(house.rule.way, still, hold, house.rule.pins, guard)
    return House(rule, house.room, house.top, house.many, house.goes, house.lag)


def outcomes_in(house):
    """The outcomes that the taps of all courses have, as the keys of a dict."""
    steps = steps_of(house)
    return {outcome: True for ahead in steps for moment, behind, outcome in steps[ahead]}


def triples_that(house, wishes):
    """The ascending list of the triples with which all of the wishes hold."""
    check_wishes(house, wishes)
    kept = []
    for triple in all_triples():
        outcomes = outcomes_in(house_with(house, triple))
        if not any([wish in outcomes for wish in wishes]):
            kept.append(triple)
    return kept


def is_lesser(one, other):
    """Whether the one triple is another one, and at most as great in each of the three numbers."""
    return one != other and all([number <= most for number, most in zip(one, other)])


def least_triples(house, wishes):
    """The ascending list of the triples with which all of the wishes hold, without those that have a lesser one."""
    triples = triples_that(house, wishes)
    return [triple for triple in triples if not any([is_lesser(other, triple) for other in triples])]
