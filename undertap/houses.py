"""Houses: a rule, and what can come, go and be tapped under it."""

from undertap.errors import BadHouse
from undertap.rules import Rule, is_number_within

MOST_ROOM = 4
GREATEST_RANK = 2
MOST_WAITING = 2
GREATEST_LAG = 3


def is_lag(value):
    """Whether any value is a pair (least, most) of ticks that does not fall."""
    if not isinstance(value, tuple) or len(value) != 2:
        return False
    least, most = value
    return is_number_within(most, 1, GREATEST_LAG) and is_number_within(least, 1, most)


class House:
    """A house. Nothing changes it, so that others may share it."""

    def __init__(self, rule, room, top, many, goes, lag):
        if not isinstance(rule, Rule):
            raise BadHouse("rule")
        if not is_number_within(room, 1, MOST_ROOM):
            raise BadHouse("room")
        if not is_number_within(top, 0, GREATEST_RANK):
            raise BadHouse("top")
        if not is_number_within(many, 1, MOST_WAITING):
            raise BadHouse("many")
        if not isinstance(goes, bool):
            raise BadHouse("goes")
        if not is_lag(lag):
            raise BadHouse("lag")
        self._rule = rule
        self._room = room
        self._top = top
        self._many = many
        self._goes = goes
        self._lag = lag

    @property
    def rule(self):
        """The rule of the house."""
        return self._rule

    @property
    def room(self):
        """How many items can be shown."""
        return self._room

    @property
    def top(self):
        """The greatest rank; the least one is 0."""
        return self._top

    @property
    def many(self):
        """How many ranks can wait."""
        return self._many

    @property
    def goes(self):
        """Whether items can go."""
        return self._goes

    @property
    def lag(self):
        """How many ticks behind a look its tap comes: the pair (least, most)."""
        return self._lag

    def __eq__(self, other):
        return (
            isinstance(other, House)
            and self._rule == other._rule
            and self._room == other._room
            and self._top == other._top
            and self._many == other._many
            and self._goes == other._goes
            and self._lag == other._lag
        )


def check_house(value, part="house"):
    """Raises BadHouse with the name of the parameter unless its value is a house."""
    if not isinstance(value, House):
        raise BadHouse(part)
