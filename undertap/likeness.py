"""Likeness: whether two rules show alike for all courses, or what list of moments parts them."""

from undertap.errors import OtherHouses
from undertap.houses import check_house
from undertap.reach import course_with, walked
from undertap.ticks import first_standing, ranks_shown, steps_at

MOST_PAIRS = 2000


def all_but_rule(house):
    """What two houses that differ at most in their rules have in common."""
    return (house.room, house.top, house.many, house.goes, house.lag)


def check_houses(one, other):
    """Raises BadHouse unless both are houses, then OtherHouses unless they differ at most in their rules."""
    check_house(one, "one")
    check_house(other, "other")
    if all_but_rule(one) != all_but_rule(other):
        raise OtherHouses("these houses differ in more than their rules")


def common_steps(one, other, pair):
    """The steps from a pair of standings with the moments that can come in both houses.

    That is: the moment, the pair of the standings behind, and whether the houses show otherwise there.
    """
    others = {moment: (behind, outcome) for moment, behind, outcome in steps_at(other, pair[1])}
    steps = []
    for moment, behind, outcome in steps_at(one, pair[0]):
        if moment in others:
            other_behind, other_outcome = others[moment]
            is_parted = ranks_shown(behind) != ranks_shown(other_behind) or outcome != other_outcome
            steps.append((moment, (behind, other_behind), is_parted))
    return steps


def parting(one, other):
    """A shortest list of moments at whose last tick the houses show otherwise; None if they show alike."""
    check_houses(one, other)
    first = (first_standing(one), first_standing(other))
    steps = walked(first, lambda pair: common_steps(one, other, pair), MOST_PAIRS)
    return course_with(first, steps, True)


def show_alike(one, other):
    """Whether the houses show alike."""
    return parting(one, other) is None
