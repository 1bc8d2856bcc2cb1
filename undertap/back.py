"""Told back: what can have come, gone and waited where only the lists that were shown are known."""

from undertap.errors import BadScreens
from undertap.houses import check_house
from undertap.reach import steps_of
from undertap.rules import is_list
from undertap.ticks import are_ranks, first_standing, ranks_shown

MOST_SCREENS = 6


def check_screens(house, screens):
    """Raises BadHouse unless the first is a house, then BadScreens unless the second is screens of it."""
    check_house(house)
    if not is_list(screens) or len(screens) > MOST_SCREENS:
        raise BadScreens(None)
    for at, ranks in enumerate(screens):
        if not are_ranks(house, ranks, house.room):
            raise BadScreens(at)


# A row has the ticks that can be one and the same tick of a course: (standing
# ahead, moment, standing behind).
def rows_from_first(house, screens):
    """The row of each tick, by courses that show so up to it."""
    steps = steps_of(house)
    rows = []
    aheads = [first_standing(house)]
    for ranks in screens:
        row = []
        for ahead in aheads:
            for moment, behind, outcome in steps[ahead]:
                if ranks_shown(behind) == ranks:
                    row.append((ahead, moment, behind))
        rows.append(row)
        aheads = sorted({behind for ahead, moment, behind in row})
    return rows


def rows_to_last(rows):
    """The rows without the ticks that lead to none of the last one."""
    kept = rows[-1:]
    for row in reversed(rows[:-1]):
        aheads = {tick[0]: True for tick in kept[-1]}
        kept.append([tick for tick in row if tick[2] in aheads])
    return kept[::-1]


def rows_that_show(house, screens):
    """The row of each tick, by the courses that show so; None if there is none."""
    check_screens(house, screens)
    rows = rows_to_last(rows_from_first(house, screens))
    return None if [] in rows else rows


def course_back(house, screens):
    """A course that shows so, or None."""
    rows = rows_that_show(house, screens)
    if rows is None:
        return None
    standing = first_standing(house)
    course = []
    for row in rows:
        ticks = [tick for tick in row if tick[0] == standing]
        ahead, moment, standing = ticks[0]
        course.append(moment)
    return course


def changes_back(house, screens):
    """The ascending tuple, for each tick, of its changes in courses that show so; None if there is none."""
    rows = rows_that_show(house, screens)
    if rows is None:
        return None
    return [tuple(sorted({moment[0] for ahead, moment, behind in row})) for row in rows]


def waiting_back(house, screens):
    """The ascending tuple, for each tick, of what waits behind it in courses that show so; None if there is none."""
    rows = rows_that_show(house, screens)
    if rows is None:
        return None
    return [tuple(sorted({behind[1] for ahead, moment, behind in row})) for row in rows]
