"""What comes: the standings to which courses lead, each with a shortest course."""

from undertap.errors import TooMany
from undertap.houses import check_house
from undertap.ticks import check_standing, first_standing, steps_at

MOST_STANDINGS = 800


def last_ticks(house):
    """For each standing that comes, nearest first, the last tick of a shortest course to it.

    That is the pair of the standing ahead and the moment, None for the first standing.
    """
    nearest = [first_standing(house)]
    lasts = {nearest[0]: None}
    while nearest:
        further = []
        for ahead in nearest:
            for moment, behind, outcome in steps_at(house, ahead):
                if behind not in lasts:
                    lasts[behind] = (ahead, moment)
                    further.append(behind)
            if len(lasts) > MOST_STANDINGS:
                raise TooMany(MOST_STANDINGS)
        nearest = further
    return lasts


def course_by(lasts, standing):
    """The shortest course to this standing, by the last ticks of all that come."""
    course = []
    last = lasts[standing]
    while last is not None:
        ahead, moment = last
        course.append(moment)
        last = lasts[ahead]
    return course[::-1]


def standings_of(house):
    """The ascending list of the standings that come."""
    check_house(house)
    return sorted(last_ticks(house))


def course_to(house, standing):
    """A shortest course to the standing, or None if it does not come."""
    check_standing(house, standing)
    lasts = last_ticks(house)
    return course_by(lasts, standing) if standing in lasts else None
