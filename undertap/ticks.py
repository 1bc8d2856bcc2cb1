"""Standings and ticks: which moments can come, and what stands behind their ticks."""

from undertap.errors import BadMoment, BadStanding
from undertap.houses import check_house
from undertap.rules import is_number, is_number_within

NOTHING = ("none",)
TAP = ("tap",)


def are_ranks(house, thing, most):
    """Whether any value is a tuple of at most so many ranks."""
    if not isinstance(thing, tuple) or len(thing) > most:
        return False
    return all([is_number_within(rank, 0, house.top) for rank in thing])


def is_item(house, thing):
    """Whether any value has the form of an item of a standing: (rank, is_gone, stood)."""
    if not isinstance(thing, tuple) or len(thing) != 3:
        return False
    rank, is_gone, stood = thing
    if not isinstance(is_gone, bool) or (is_gone and not house.goes):
        return False
    return is_number_within(rank, 0, house.top) and is_number_within(stood, 0, house.rule.guard)


def is_look(house, thing, many):
    """Whether any value has the form of a look, () or (age, place, spot), where so many items are shown."""
    if not isinstance(thing, tuple) or len(thing) not in (0, 3):
        return False
    if thing == ():
        return True
    age, place, spot = thing
    return (
        is_number_within(age, 0, house.lag[1] - 1)
        and is_number_within(place, 0, house.room - 1)
        and is_number_within(spot, -1, many - 1)
    )


def is_standing(house, thing):
    """Whether any value has the form of a standing of the house."""
    check_house(house)
    if not isinstance(thing, tuple) or len(thing) != 4:
        return False
    shown, waiting, quiet, look = thing
    if not isinstance(shown, tuple) or len(shown) > house.room:
        return False
    return (
        all([is_item(house, item) for item in shown])
        and are_ranks(house, waiting, house.many)
        and is_number_within(quiet, 0, house.rule.still)
        and is_look(house, look, len(shown))
    )


def check_standing(house, standing):
    """Raises BadHouse unless the first is a house, then BadStanding unless the second has the form of its standings."""
    if not is_standing(house, standing):
        raise BadStanding("this value has not the form of a standing of this house")


def first_standing(house):
    """The standing behind the empty course."""
    check_house(house)
    return ((), (), house.rule.still, ())


def ranks_shown(standing):
    """The tuple of the ranks of the items that are shown, in order."""
    return tuple([rank for rank, is_gone, stood in standing[0]])


def pairs_shown(standing):
    """The tuple of the pairs (rank, is_gone) of the items that are shown, in order."""
    return tuple([(rank, is_gone) for rank, is_gone, stood in standing[0]])


def changes_at(house, standing):
    """The ascending list of the changes that can come there."""
    shown, waiting = standing[:2]
    changes = []
    if len(waiting) < house.many:
        changes += [("come", rank) for rank in range(house.top + 1)]
    if house.goes:
        changes += [("go", place) for place, (rank, is_gone, stood) in enumerate(shown) if not is_gone]
    return changes + [NOTHING]


def changed(standing, change):
    """The items that are shown and the ranks that wait, with the change done."""
    shown, waiting = standing[:2]
    if change[0] == "come":
        return (shown, waiting + (change[1],))
    if change[0] == "go":
        place = change[1]
        rank, is_gone, stood = shown[place]
        return (shown[:place] + ((rank, True, stood),) + shown[place + 1:], waiting)
    return (shown, waiting)


def must_draw(rule, shown, waiting, quiet, look):
    """Whether the list is drawn, by the change that is done and by quiet and look of the standing ahead of the tick."""
    # At this tick the last drawing is quiet + 1 ticks ago, and the look is its age + 1 ticks ago.
    if quiet < rule.still or (look != () and look[0] < rule.hold):
        return False
    return waiting != () or any([is_gone for rank, is_gone, stood in shown])


def place_by_way(way, ranks, rank):
    """The place that the way gives to a new item among the items of these ranks."""
    if way == "front":
        return 0
    if way == "rank":
        for place, other in enumerate(ranks):
            if other > rank:
                return place
    return len(ranks)


def place_for(rule, ranks, rank):
    """The place at which a new item is put in: none of the pinned ones that are taken."""
    return max(place_by_way(rule.way, ranks, rank), min(rule.pins, len(ranks)))


# A row is (rank, is_gone, before): before is the place of the item ahead of the
# tick, or None for a new one; so items of the same rank can be told apart.
def undrawn_rows(shown):
    """The rows of a list that is not drawn."""
    return [(rank, is_gone, place) for place, (rank, is_gone, stood) in enumerate(shown)]


def drawn_rows(house, shown, waiting):
    """The rows of a list that is drawn."""
    rows = [row for row in undrawn_rows(shown) if not row[1]]
    for rank in waiting:
        rows.insert(place_for(house.rule, [row[0] for row in rows], rank), (rank, False, None))
        rows = rows[:house.room]
    return rows


def stood_on(rule, shown, rows):
    """The items of the rows, each with how long it has stood, by the items that were shown ahead of the tick."""
    items = []
    for place, (rank, is_gone, before) in enumerate(rows):
        stood = min(shown[place][2] + 1, rule.guard) if before == place else 0
        items.append((rank, is_gone, stood))
    return tuple(items)


def followed(look, rows):
    """The look one tick later, its spot being the place in the rows at which the seen item is now."""
    if look == ():
        return ()
    age, place, spot = look
    befores = [row[2] for row in rows]
    return (age + 1, place, befores.index(spot) if spot in befores else -1)


def settled_at(house, standing, change):
    """What stands when the change and the drawing are done, and is left so by the hand that does nothing."""
    rule = house.rule
    quiet, look = standing[2:]
    shown, waiting = changed(standing, change)
    if must_draw(rule, shown, waiting, quiet, look):
        rows = drawn_rows(house, shown, waiting)
        waiting = ()
        quiet = 0
    else:
        rows = undrawn_rows(shown)
        quiet = min(quiet + 1, rule.still)
    return (stood_on(rule, shown, rows), waiting, quiet, followed(look, rows))


def hands_at(house, settled):
    """The ascending list of the hands that can come when the drawing is done."""
    shown, look = settled[0], settled[3]
    if look == ():
        return [("look", place) for place in range(len(shown))] + [NOTHING]
    least, most = house.lag
    if look[0] == most:
        return [TAP]
    return [NOTHING, TAP] if look[0] >= least else [NOTHING]


def outcome_of(rule, shown, look):
    """The outcome of the tap of this look."""
    age, place, spot = look
    if place >= len(shown):
        return "empty"
    rank, is_gone, stood = shown[place]
    if stood < rule.guard:
        return "back"
    if is_gone:
        return "gone"
    return "right" if spot == place else "other"


def handled(rule, settled, hand):
    """The pair of the standing behind the tick and the outcome, by what stands when the drawing is done."""
    shown, waiting, quiet, look = settled
    if hand[0] == "look":
        return ((shown, waiting, quiet, (0, hand[1], hand[1])), "")
    if hand[0] == "tap":
        return ((shown, waiting, quiet, ()), outcome_of(rule, shown, look))
    return (settled, "")


def steps_at(house, standing):
    """For each moment that can come there, ascending: the moment, the standing behind its tick, and the outcome."""
    steps = []
    for change in changes_at(house, standing):
        settled = settled_at(house, standing, change)
        for hand in hands_at(house, settled):
            behind, outcome = handled(house.rule, settled, hand)
            steps.append(((change, hand), behind, outcome))
    return steps


def is_comparable(thing):
    """Whether any value is a tuple that can be compared with changes and hands: for True equals 1, but is no number."""
    return isinstance(thing, tuple) and (len(thing) < 2 or is_number(thing[1]))


def step_at(house, standing, moment):
    """The pair of the standing behind the tick and the outcome; None for any value that is no moment that can come."""
    if not isinstance(moment, tuple) or len(moment) != 2:
        return None
    change, hand = moment
    if not is_comparable(change) or not is_comparable(hand):
        return None
    if change not in changes_at(house, standing):
        return None
    settled = settled_at(house, standing, change)
    if hand not in hands_at(house, settled):
        return None
    return handled(house.rule, settled, hand)


def moments_at(house, standing):
    """The ascending list of the moments that can come there."""
    check_standing(house, standing)
    return [moment for moment, behind, outcome in steps_at(house, standing)]


def tick_at(house, standing, moment):
    """The pair of the standing behind a tick with this moment and the outcome."""
    check_standing(house, standing)
    step = step_at(house, standing, moment)
    if step is None:
        raise BadMoment(None)
    return step
