"""Courses: lists of moments, each of which can come at its tick."""

from undertap.errors import BadMoment
from undertap.houses import check_house
from undertap.rules import is_list
from undertap.ticks import first_standing, pairs_shown, step_at


def steps_along(house, moments):
    """The pair of the standing and the outcome behind each tick, up to the first value that cannot come."""
    steps = []
    standing = first_standing(house)
    for moment in moments:
        step = step_at(house, standing, moment)
        if step is None:
            return steps
        steps.append(step)
        standing = step[0]
    return steps


def checked_steps(house, course):
    """The pairs of the standing and the outcome behind each tick; the error of the house or of the course."""
    check_house(house)
    if not is_list(course):
        raise BadMoment(None)
    steps = steps_along(house, course)
    if len(steps) < len(course):
        raise BadMoment(len(steps))
    return steps


def is_course(house, thing):
    """Whether any value is a course of the house."""
    check_house(house)
    return is_list(thing) and len(steps_along(house, thing)) == len(thing)


def run_of(house, course):
    """The list with the triple (shown, waiting, outcome) for each tick, shown being pairs (rank, is_gone)."""
    return [(pairs_shown(standing), standing[1], outcome) for standing, outcome in checked_steps(house, course)]


def behind_of(house, course):
    """The standing behind the course."""
    steps = checked_steps(house, course)
    return steps[-1][0] if steps else first_standing(house)
