"""Journals: what was done on a screen and what was shown, and whether it can have been so."""

from undertap.errors import BadJournal, BadMoment, NothingDone
from undertap.rules import is_list, is_number
from undertap.screen import Screen


def is_pair(thing):
    """Whether any value is a pair of a number and a bool."""
    return isinstance(thing, tuple) and len(thing) == 2 and is_number(thing[0]) and isinstance(thing[1], bool)


def is_done(screen, change, hand, outcome):
    """Whether the screen takes a tick with this moment and gives it this outcome; it is done then."""
    try:
        return screen.tick(change, hand) == outcome
    except BadMoment:
        return False


def is_undone(screen):
    """Whether the screen has a last tick; it is taken back then."""
    try:
        screen.undo()
        return True
    except NothingDone:
        return False


def is_shown(screen, thing):
    """Whether any value is the tuple of the items that the screen shows."""
    # True equals 1: so it does not suffice to compare.
    if not isinstance(thing, tuple) or not all([is_pair(pair) for pair in thing]):
        return False
    return thing == tuple(screen.shown)


def is_right(screen, entry):
    """Whether any value is an entry that can come next; the screen has done it then."""
    if not isinstance(entry, tuple):
        return False
    if len(entry) == 4 and entry[0] == "tick":
        return is_done(screen, entry[1], entry[2], entry[3])
    if len(entry) == 2 and entry[0] == "shown":
        return is_shown(screen, entry[1])
    return entry == ("undo",) and is_undone(screen)


def judged(house, journal):
    """The index of the first wrong entry, None if there is none, and the screen that has done the entries ahead."""
    screen = Screen(house)
    if not is_list(journal):
        return (0, screen)
    for at, entry in enumerate(journal):
        if not is_right(screen, entry):
            return (at, screen)
    return (None, screen)


def first_wrong(house, journal):
    """The index of the first wrong entry, or None if there is none."""
    return judged(house, journal)[0]


def replayed(house, journal):
    """The screen behind the journal."""
    at, screen = judged(house, journal)
    if at is not None:
        raise BadJournal(at)
    return screen
