"""A screen: a house whose ticks are done and taken back one by one."""

from undertap.errors import BadMoment, NothingDone
from undertap.houses import check_house
from undertap.ticks import first_standing, pairs_shown, step_at, steps_at


def outcomes_from(house, standing):
    """The ascending tuple of the outcomes that the tap of the open look of the standing can have."""
    outcomes = {}
    nearest = [standing]
    # The look is closed at the latest when its lag is over: so the ways on come to an end.
    while nearest:
        further = {}
        for ahead in nearest:
            for moment, behind, outcome in steps_at(house, ahead):
                if outcome == "":
                    further[behind] = True
                else:
                    outcomes[outcome] = True
        nearest = list(further)
    return tuple(sorted(outcomes))


class Block:
    """A block that is entered: the ticks at its beginning, and the block around it, None for the outmost one."""

    def __init__(self, ticks, outer):
        self.ticks = ticks
        self.outer = outer


class Screen:
    """A screen. Its ticks are a tuple of pairs (moment, standing behind): so a block can keep them as they are."""

    def __init__(self, house):
        check_house(house)
        self._house = house
        self._first = first_standing(house)
        self._ticks = ()
        self._block = None

    @property
    def house(self):
        """The house of the screen."""
        return self._house

    @property
    def course(self):
        """The list of the moments of the ticks that stand."""
        return [moment for moment, behind in self._ticks]

    @property
    def standing(self):
        """The standing behind the course."""
        return self._ticks[-1][1] if self._ticks else self._first

    @property
    def shown(self):
        """The list of the pairs (rank, is_gone) of the items that are shown."""
        return list(pairs_shown(self.standing))

    def tick(self, change, hand):
        """Does a tick with this moment, and tells its outcome."""
        moment = (change, hand)
        step = step_at(self._house, self.standing, moment)
        if step is None:
            raise BadMoment(None)
        behind, outcome = step
        self._ticks = self._ticks + ((moment, behind),)
        return outcome

    def undo(self):
        """Takes the last tick back."""
        if not self._ticks:
            raise NothingDone("there is no tick that can be taken back")
        self._ticks = self._ticks[:-1]

    def outcomes_ahead(self):
        """The ascending tuple of the outcomes that the tap of the open look can have; () if no look is open."""
        standing = self.standing
        return outcomes_from(self._house, standing) if standing[3] != () else ()

    def __enter__(self):
        self._block = Block(self._ticks, self._block)
        return self

    def __exit__(self, kind, value, trace):
        if kind is not None:
            self._ticks = self._block.ticks
        self._block = self._block.outer

    def tried(self, work):
        """What the function work returns for the screen; if it raises an error, the course is as before."""
        with self as same:
            return work(same)

    def copy(self):
        """An independent screen with the same course, in no block."""
        other = Screen(self._house)
        other._ticks = self._ticks
        return other

    def __eq__(self, other):
        return isinstance(other, Screen) and self._house == other._house and self._ticks == other._ticks
