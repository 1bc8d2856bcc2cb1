"""Wishes: outcomes that no tap of any course may have, and the papers that show it or show a breaker."""

from undertap.courses import is_course, run_of
from undertap.errors import BadWish
from undertap.houses import check_house
from undertap.reach import course_with, standings_of, steps_of
from undertap.rules import is_list, is_one_of
from undertap.ticks import first_standing, is_standing, steps_at

WISHES = ("back", "empty", "gone", "other")
MOST_IN_PAPER = 1000


def check_wish(house, wish):
    """Raises BadHouse unless the first is a house, then BadWish unless the second is a wish."""
    check_house(house)
    if not is_one_of(wish, WISHES):
        raise BadWish(None)


def breaker_of(house, wish):
    """A shortest course at whose last tick is a tap with this outcome, or None if the wish holds."""
    check_wish(house, wish)
    return course_with(first_standing(house), steps_of(house), wish)


def wish_holds(house, wish):
    """Whether no tap of any course has this outcome."""
    return breaker_of(house, wish) is None


def paper_of(house, wish):
    """A paper that shows that the wish holds, or that it does not."""
    breaker = breaker_of(house, wish)
    if breaker is None:
        return ("never", standings_of(house))
    return ("course", breaker)


def are_standings(house, thing):
    """Whether any value is a list of different standings of the house, at most as many as a paper may have."""
    if not is_list(thing) or len(thing) > MOST_IN_PAPER:
        return False
    # Only what has the form of a standing can be a member of a set.
    return all([is_standing(house, one) for one in thing]) and len(set(thing)) == len(thing)


def is_closed(house, wish, standings):
    """Whether a list of different standings has the first one and all to which they lead, never with this outcome."""
    known = {standing: True for standing in standings}
    if first_standing(house) not in known:
        return False
    for standing in standings:
        for moment, behind, outcome in steps_at(house, standing):
            if outcome == wish or behind not in known:
                return False
    return True


def ends_with(house, outcome, thing):
    """Whether any value is a course whose last tick has this outcome."""
    return is_course(house, thing) and len(thing) > 0 and run_of(house, thing)[-1][2] == outcome


def is_paper(house, wish, thing):
    """Whether any value is a paper for the house and the wish."""
    check_wish(house, wish)
    if not isinstance(thing, tuple) or len(thing) != 2:
        return False
    kind, told = thing
    if kind == "never":
        return are_standings(house, told) and is_closed(house, wish, told)
    return kind == "course" and ends_with(house, wish, told)
