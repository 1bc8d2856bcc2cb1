"""A desk: a screen that is asked by lines of text, and answers so."""

from undertap.errors import BadMoment, NothingDone, TooMany
from undertap.screen import Screen
from undertap.texts import moment_text, read_house, read_moment
from undertap.waits import MEASURES, most_of
from undertap.wishes import WISHES, breaker_of

UNKNOWN = "not understood"


def tick_reply(screen, moment):
    """The answer to a tick with this moment."""
    change, hand = moment
    try:
        outcome = screen.tick(change, hand)
    except BadMoment:
        return "error BadMoment"
    return "ok" if outcome == "" else outcome


def undo_reply(screen):
    """The answer to an undo."""
    try:
        screen.undo()
    except NothingDone:
        return "error NothingDone"
    return "ok"


def words_reply(words):
    """The words, separated by blanks, or that there are none."""
    return " ".join(words) if words else "none"


def shown_reply(screen):
    """The answer that tells what is shown."""
    return words_reply([f"{rank}!" if is_gone else f"{rank}" for rank, is_gone in screen.shown])


def wish_reply(house, wish):
    """The answer that tells whether the wish holds, or how it is broken."""
    try:
        breaker = breaker_of(house, wish)
    except TooMany:
        return "error TooMany"
    return "holds" if breaker is None else ", ".join([moment_text(moment) for moment in breaker])


def most_reply(house, measure):
    """The answer that tells how often the measure counts."""
    try:
        most = most_of(house, measure)
    except TooMany:
        return "error TooMany"
    return "ever" if most is None else str(most)


def word_reply(screen, word):
    """The answer to a line of one word."""
    if word == "undo":
        return undo_reply(screen)
    if word == "shown":
        return shown_reply(screen)
    if word == "ahead":
        return words_reply(screen.outcomes_ahead())
    if word == "ticks":
        return str(len(screen.course))
    return UNKNOWN


def longer_reply(screen, word, rest):
    """The answer to a line of more words: the first one, and what stands behind the blank."""
    if word == "tick":
        moment = read_moment(rest)
        return UNKNOWN if moment is None else tick_reply(screen, moment)
    if word == "wish" and rest in WISHES:
        return wish_reply(screen.house, rest)
    if word == "most" and rest in MEASURES:
        return most_reply(screen.house, rest)
    return UNKNOWN


class Desk:
    """A desk with a screen of the house with this text."""

    def __init__(self, text):
        self._screen = Screen(read_house(text))

    def reply(self, line):
        """The answer to any value as a line."""
        if not isinstance(line, str):
            return UNKNOWN
        word, blank, rest = line.partition(" ")
        if blank == "":
            return word_reply(self._screen, word)
        return longer_reply(self._screen, word, rest)
