"""How often: the most ticks at which ranks wait, or taps in a row that are let go by, and the papers that show it."""

from undertap.courses import behind_of, is_course, steps_along
from undertap.errors import BadMeasure
from undertap.houses import check_house
from undertap.reach import course_by, last_ticks, steps_of
from undertap.rules import is_list, is_number, is_one_of
from undertap.ticks import first_standing, is_standing, steps_at

MEASURES = ("back", "wait")
COUNTS = "counts"
PASSES = "passes"
ENDS = "ends"


def check_measure(house, measure):
    """Raises BadHouse unless the first is a house, then BadMeasure unless the second is a measure."""
    check_house(house)
    if not is_one_of(measure, MEASURES):
        raise BadMeasure("this value is no measure")


def effect_of(measure, behind, outcome):
    """Whether the measure counts, passes or ends at a tick with this standing behind it and this outcome."""
    if measure == "wait":
        return COUNTS if behind[1] != () else ENDS
    if outcome == "":
        return PASSES
    return COUNTS if outcome == "back" else ENDS


def links_of(steps, measure):
    """For each standing that comes, the ticks of runs there: (moment, standing behind, whether the measure counts)."""
    links = {}
    for ahead in steps:
        links[ahead] = []
        for moment, behind, outcome in steps[ahead]:
            effect = effect_of(measure, behind, outcome)
            if effect != ENDS:
                links[ahead].append((moment, behind, effect == COUNTS))
    return links


# The level k has the standings behind runs in which the measure counts at k
# ticks, each with the last tick of such a run: (standing ahead, moment, whether
# it counts). The standing ahead is of the same level, or of the one below if it
# counts. A level has no standing that the one below lacks.
def next_level(links, level):
    """The level above this one."""
    found = {}
    for ahead in level:
        for moment, behind, counts in links[ahead]:
            if counts and behind not in found:
                found[behind] = (ahead, moment, True)
    nearest = list(found)
    while nearest:
        further = []
        for ahead in nearest:
            for moment, behind, counts in links[ahead]:
                if not counts and behind not in found:
                    found[behind] = (ahead, moment, False)
                    further.append(behind)
        nearest = further
    return found


def is_endless(levels):
    """Whether the last level has just the standings of the one below: then each one above has them, too."""
    return len(levels) > 1 and len(levels[-1]) == len(levels[-2])


def levels_of(steps, measure):
    """The levels from 0 on, up to the greatest one or to one at which they are endless."""
    links = links_of(steps, measure)
    levels = [{standing: None for standing in links}]
    level = next_level(links, levels[0])
    while level and not is_endless(levels):
        levels.append(level)
        level = next_level(links, level)
    return levels


def heights_by(levels):
    """The greatest level of each standing, by ascending standings."""
    heights = {standing: 0 for standing in sorted(levels[0])}
    for height, level in enumerate(levels):
        for standing in level:
            heights[standing] = height
    return heights


def greatest_run(levels):
    """The pair of the standing ahead of a run that counts as often as the greatest level tells, and its moments."""
    height = len(levels) - 1
    standing = min(levels[height])
    run = []
    while height > 0:
        standing, moment, counts = levels[height][standing]
        run.append(moment)
        if counts:
            height -= 1
    return (standing, run[::-1])


def ring_within(level):
    """The pair of a standing and the moments that lead from it to itself, the level being that of endless levels."""
    standing = min(level)
    # From each standing the way back stays within the level: so in the end it goes round.
    for _ in range(len(level)):
        standing = level[standing][0]
    ahead, moment, counts = level[standing]
    ring = [moment]
    while ahead != standing:
        ahead, moment, counts = level[ahead]
        ring.append(moment)
    return (standing, ring[::-1])


def most_of(house, measure):
    """The greatest number of ticks at which the measure counts in a run, or None if there is no greatest."""
    check_measure(house, measure)
    levels = levels_of(steps_of(house), measure)
    return None if is_endless(levels) else len(levels) - 1


def measure_paper(house, measure):
    """A paper that shows the greatest number of ticks, or that there is none."""
    check_measure(house, measure)
    steps = steps_of(house)
    lasts = last_ticks(first_standing(house), steps)
    levels = levels_of(steps, measure)
    if is_endless(levels):
        standing, ring = ring_within(levels[-1])
        return ("ever", course_by(lasts, standing), ring)
    standing, run = greatest_run(levels)
    return ("most", heights_by(levels), course_by(lasts, standing) + run)


def rises(house, measure, heights, standing):
    """Whether each tick there leads to a height that is great enough."""
    for moment, behind, outcome in steps_at(house, standing):
        if behind not in heights:
            return False
        effect = effect_of(measure, behind, outcome)
        least = heights[standing] + 1 if effect == COUNTS else heights[standing]
        if effect != ENDS and heights[behind] < least:
            return False
    return True


def are_heights(house, measure, thing):
    """Whether any value is heights for the house and the measure."""
    if not isinstance(thing, dict) or not all([is_standing(house, key) for key in thing]):
        return False
    if not all([is_number(height) and height >= 0 for height in thing.values()]):
        return False
    return first_standing(house) in thing and all([rises(house, measure, thing, standing) for standing in thing])


def ends_in_run(house, measure, thing, many):
    """Whether any value is a course that ends with a run in which the measure counts at so many ticks."""
    if not is_course(house, thing):
        return False
    counted = 0
    for behind, outcome in steps_along(house, thing):
        effect = effect_of(measure, behind, outcome)
        if effect == ENDS:
            counted = 0
        elif effect == COUNTS:
            counted += 1
    # The run may begin later than behind the last tick that ends it.
    return counted >= many


def goes_round(house, measure, course, ring):
    """Whether any values are a course, and a ring behind it at which the measure counts and never ends."""
    if not is_list(course) or not is_list(ring) or len(ring) == 0:
        return False
    whole = [*course, *ring]
    steps = steps_along(house, whole)
    if len(steps) < len(whole) or steps[-1][0] != behind_of(house, course):
        return False
    effects = [effect_of(measure, behind, outcome) for behind, outcome in steps[len(course):]]
    return COUNTS in effects and ENDS not in effects


def is_measure_paper(house, measure, thing):
    """Whether any value is a paper for the house and the measure."""
    check_measure(house, measure)
    if not isinstance(thing, tuple) or len(thing) != 3:
        return False
    kind, one, other = thing
    if kind == "most":
        return are_heights(house, measure, one) and ends_in_run(house, measure, other, max(one.values()))
    return kind == "ever" and goes_round(house, measure, one, other)
