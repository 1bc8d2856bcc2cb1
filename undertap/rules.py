"""Rules: where new items are put in, when the list stands still, and which taps are let go by."""

from undertap.errors import BadRule

WAYS = ("end", "front", "rank")
PARTS = ("way", "still", "hold", "pins", "guard")
MOST_TICKS = 3
MOST_PINS = 2


def is_number(value):
    """Whether any value is a number; a bool is none."""
    return isinstance(value, int) and not isinstance(value, bool)


def is_number_within(value, least, most):
    """Whether any value is a number from least to most."""
    return is_number(value) and least <= value <= most


def is_one_of(value, texts):
    """Whether any value is one of these texts."""
    return isinstance(value, str) and value in texts


def is_list(value):
    """Whether any value is a list, or a tuple in the place of one."""
    return isinstance(value, (list, tuple))


class Rule:
    """A rule. Nothing changes it, so that houses may share it."""

    def __init__(self, way, still, hold, pins, guard):
        if not is_one_of(way, WAYS):
            raise BadRule("way")
        if not is_number_within(still, 0, MOST_TICKS):
            raise BadRule("still")
        if not is_number_within(hold, 0, MOST_TICKS):
            raise BadRule("hold")
        if not is_number_within(pins, 0, MOST_PINS):
            raise BadRule("pins")
        if not is_number_within(guard, 0, MOST_TICKS):
            raise BadRule("guard")
        self._way = way
        self._still = still
        self._hold = hold
        self._pins = pins
        self._guard = guard

    @property
    def way(self):
        """Where new items are put in: "end", "front" or "rank"."""
        return self._way

    @property
    def still(self):
        """For how many ticks the list stands still behind a drawing."""
        return self._still

    @property
    def hold(self):
        """For how many ticks the list is held behind a look."""
        return self._hold

    @property
    def pins(self):
        """How many of the first places are pinned."""
        return self._pins

    @property
    def guard(self):
        """For how many ticks an item must have stood at its place, or its tap is let go by."""
        return self._guard

    def with_part(self, part, value):
        """A rule like this one, but with this value of the parameter of this name."""
        if not is_one_of(part, PARTS):
            raise BadRule(None)
        parts = {
            "way": self._way,
            "still": self._still,
            "hold": self._hold,
            "pins": self._pins,
            "guard": self._guard,
        }
        parts[part] = value
        return Rule(parts["way"], parts["still"], parts["hold"], parts["pins"], parts["guard"])

    def __eq__(self, other):
        return (
            isinstance(other, Rule)
            and self._way == other._way
            and self._still == other._still
            and self._hold == other._hold
            and self._pins == other._pins
            and self._guard == other._guard
        )
