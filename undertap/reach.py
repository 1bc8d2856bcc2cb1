"""What comes: the standings to which courses lead, each with a shortest course."""

from undertap.errors import TooMany
from undertap.houses import check_house
from undertap.ticks import check_standing, first_standing, steps_at

MOST_STANDINGS = 800


# What is walked over are the standings of a house, or pairs of those of two
# houses; a step is (moment, what stands behind it, what is told of it).
def walked(first, steps_from, most):
    """The list of steps of each that comes from the first one, nearest first; TooMany if more than so many come."""
    steps = {first: []}
    nearest = [first]
    while nearest:
        further = []
        for ahead in nearest:
            here = steps_from(ahead)
            steps[ahead] = here
            for moment, behind, told in here:
                if behind not in steps:
                    steps[behind] = []
                    further.append(behind)
            if len(steps) > most:
                raise TooMany(most)
        nearest = further
    return steps


def last_ticks(first, steps):
    """For each that comes, the last tick of a shortest course to it: the pair of what stands ahead and the moment.

    It is None for the first one. The steps are those of all that come, nearest first.
    """
    lasts = {first: None}
    for ahead in steps:
        for moment, behind, told in steps[ahead]:
            if behind not in lasts:
                lasts[behind] = (ahead, moment)
    return lasts


def course_by(lasts, standing):
    """The shortest course to this one, by the last ticks of all that come."""
    course = []
    last = lasts[standing]
    while last is not None:
        ahead, moment = last
        course.append(moment)
        last = lasts[ahead]
    return course[::-1]


def course_with(first, steps, sought):
    """A shortest course with a last step of which this is told, or None if there is no such step."""
    # They are sorted by distance: the first one with such a step is nearest.
    for ahead in steps:
        for moment, behind, told in steps[ahead]:
            if told == sought:
                return course_by(last_ticks(first, steps), ahead) + [moment]
    return None


def steps_of(house):
    """For each standing that comes, nearest first, its steps, of each of which the outcome is told."""
    return walked(first_standing(house), lambda standing: steps_at(house, standing), MOST_STANDINGS)


def standings_of(house):
    """The ascending list of the standings that come."""
    check_house(house)
    return sorted(steps_of(house))


def course_to(house, standing):
    """A shortest course to the standing, or None if it does not come."""
    check_standing(house, standing)
    lasts = last_ticks(first_standing(house), steps_of(house))
    return course_by(lasts, standing) if standing in lasts else None
