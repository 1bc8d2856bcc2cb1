"""A slow second telling of part 3 of the document, to which the tests hold the program.

It keeps all that was: each item by a number of its own, the list behind each tick, and the number of each tick at which
something was done. So it counts where the program keeps a standing.
"""


class Model:
    def __init__(self, house):
        self.house = house
        self.rule = house.rule
        self.ranks = []
        self.gone = set()
        self.waiting = []
        self.lists = [[]]
        self.drawings = []
        self.look = None

    def now(self):
        """The number of the last tick that was done; the first one has the number 1."""
        return len(self.lists) - 1

    def changes(self):
        found = [("none",)]
        for rank in range(self.house.top + 1):
            if len(self.waiting) < self.house.many:
                found.append(("come", rank))
        for place, item in enumerate(self.lists[-1]):
            if self.house.goes and item not in self.gone:
                found.append(("go", place))
        return found

    def may_draw(self):
        tick = self.now() + 1
        if any(tick - self.rule.still <= drawing < tick for drawing in self.drawings):
            return False
        return self.look is None or not tick - self.rule.hold <= self.look[0] < tick

    def drawn(self, change):
        """(items, ranks of the new ones, whether the list was drawn) for the next tick with this change."""
        items, waiting, gone = list(self.lists[-1]), list(self.waiting), set(self.gone)
        if change[0] == "come":
            waiting.append(change[1])
        if change[0] == "go":
            gone.add(items[change[1]])
        if not (waiting or gone & set(items)) or not self.may_draw():
            return items, [], False
        ranks = self.ranks + waiting
        items = [item for item in items if item not in gone]
        for item in range(len(self.ranks), len(ranks)):
            greater = [place for place, other in enumerate(items) if ranks[other] > ranks[item]]
            at = {"end": len(items), "front": 0, "rank": min(greater + [len(items)])}[self.rule.way]
            lowest = self.rule.pins if self.rule.pins < len(items) else len(items)
            at = lowest if at < lowest else at
            items = items[:at] + [item] + items[at:]
            if len(items) > self.house.room:
                del items[-1]
        return items, waiting, True

    def hands(self, change):
        if self.look is None:
            items, _, _ = self.drawn(change)
            return [("none",)] + [("look", place) for place in range(len(items))]
        least, most = self.house.lag
        ago = self.now() + 1 - self.look[0]
        if ago == most:
            return [("tap",)]
        return [("none",), ("tap",)] if ago >= least else [("none",)]

    def moments(self):
        return sorted((change, hand) for change in self.changes() for hand in self.hands(change))

    def stood(self, place):
        """For how many ticks the item at this place has stood there."""
        many = 0
        while many < self.now():
            ahead = self.lists[-2 - many]
            if place >= len(ahead) or ahead[place] != self.lists[-1][place]:
                break
            many += 1
        return many

    def outcome(self):
        _, place, seen = self.look
        if place >= len(self.lists[-1]):
            return "empty"
        item = self.lists[-1][place]
        if self.stood(place) < self.rule.guard:
            return "back"
        if item in self.gone:
            return "gone"
        return "right" if item == seen else "other"

    def tick(self, change, hand):
        """Does the tick and tells the outcome."""
        items, new, was_drawn = self.drawn(change)
        if change[0] == "come":
            self.waiting.append(change[1])
        if change[0] == "go":
            self.gone.add(self.lists[-1][change[1]])
        self.lists.append(items)
        if was_drawn:
            self.ranks += new
            self.waiting = []
            self.drawings.append(self.now())
        outcome = ""
        if hand[0] == "look":
            self.look = (self.now(), hand[1], items[hand[1]])
        if hand[0] == "tap":
            outcome = self.outcome()
            self.look = None
        return outcome

    def shown(self):
        return tuple((self.ranks[item], item in self.gone) for item in self.lists[-1])

    def standing(self):
        items = self.lists[-1]
        shown = tuple(pair + (min(self.rule.guard, self.stood(place)),) for place, pair in enumerate(self.shown()))
        quiet = min([self.rule.still] + [self.now() - drawing for drawing in self.drawings])
        look = ()
        if self.look is not None:
            tick, place, seen = self.look
            look = (self.now() - tick, place, items.index(seen) if seen in items else -1)
        return (shown, tuple(self.waiting), quiet, look)
