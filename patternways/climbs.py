"""Sorts of stops: how often they have one another by texts, which of them double, and which climb."""

from patternways.frames import Frames
from patternways.kinds import LETTERS, letter_numbers
from patternways.machines import text_by
from patternways.walks import counted


class Sorts:
    """All sorts that come about of the stops of a pattern.

    texts has, for each of them, a text behind which there is a stop of it; rows has, for each of them and each letter,
    a dict from the sorts that it has by this letter to how often it has them.
    """

    def __init__(self, size, pattern):
        self.frames = Frames(size, pattern)
        self.first = list(self.frames.sorts_of(self.frames.first))
        self.texts = {sort: "" for sort in self.first}
        self.rows = {}
        queue = list(self.first)
        at = 0
        while at < len(queue):
            sort = queue[at]
            self.rows[sort] = [counted(self.frames, {sort: 1}, letter) for letter in range(size)]
            for letter, row in enumerate(self.rows[sort]):
                for later in row:
                    if later not in self.texts:
                        self.texts[later] = self.texts[sort] + LETTERS[letter]
                        queue.append(later)
            at += 1

    def had_by(self, sort, text):
        """Return a dict from the sorts that a sort has by a text to how often it has them."""
        found = {sort: 1}
        for letter in letter_numbers(text):
            found = counted(self.frames, found, letter)
        return found

    def are_behind(self, text):
        """Return a dict from the sorts of the stops behind a text to how often there are such stops."""
        found = self.frames.sorts_of(self.frames.first)
        for letter in letter_numbers(text):
            found = counted(self.frames, found, letter)
        return found

    def leading(self, sort, other):
        """Return a text by which a sort has another one, or itself; None if there is none."""
        return _text_between((sort,), (other,), lambda things: self._ways(things))

    def climbing(self, one, other):
        """Return a text by which a pair of two different sorts climbs; None if there is none."""
        return _text_between((one, one, other), (one, other, other), lambda things: self._ways(things))

    def doubling(self, sort):
        """Return a text by which a sort has itself at least twice; None if there is none."""
        return _text_between((sort, sort, False), (sort, sort, True), lambda thing: self._ways_apart(thing))

    def _ways(self, things):
        """Return the letters by which some sorts have others, each with these."""
        found = []
        for letter in range(self.frames.size):
            rows = [()]
            for sort in things:
                rows = [(*row, later) for row in rows for later in self.rows[sort][letter]]
            found.extend([(letter, row) for row in rows])
        return found

    def _ways_apart(self, thing):
        """Return the ways on from two sorts that come from one, and whether they came by different ways."""
        one, other, apart = thing
        found = []
        for letter, (first, second) in self._ways((one, other)):
            parts = first != second or self.rows[one][letter][first] > 1
            found.append((letter, (first, second, apart or parts)))
        return found


def _text_between(start, goal, ways):
    before = {start: None}
    queue = [start]
    at = 0
    while at < len(queue) and goal not in before:
        thing = queue[at]
        for letter, later in ways(thing):
            if later not in before:
                before[later] = (thing, letter)
                queue.append(later)
        at += 1
    return text_by(before, goal) if goal in before else None


def first_doubling(sorts):
    """Return the first sort that has itself at least twice by a text, and this text; None if there is none."""
    for sort in sorts.texts:
        ring = sorts.doubling(sort)
        if ring is not None:
            return sort, ring
    return None


class Climbs:
    """The pairs of sorts that climb, each with a text, and levels of the sorts; if the widths do not double."""

    def __init__(self, sorts):
        self.sorts = sorts
        self.pairs = {}
        for one in sorts.texts:
            for other in sorts.texts:
                text = None if one == other else sorts.climbing(one, other)
                if text is not None:
                    self.pairs[(one, other)] = text
        self.levels = {sort: 0 for sort in sorts.texts}
        grows = True
        while grows:
            before = self.levels
            self.levels = {sort: self._level(sort) for sort in before}
            grows = self.levels != before

    def _level(self, sort):
        found = self.levels[sort]
        for row in self.sorts.rows[sort]:
            found = max([found] + [self.levels[later] for later in row])
        return max([found] + [self.levels[other] + 1 for one, other in self.pairs if one == sort])

    def power(self):
        """Return the greatest number of pairs of a ladder."""
        return max(self.levels.values(), default=0)

    def find_ladder(self):
        """Return a longest ladder: a list of pairs that climb."""
        found = []
        for level in reversed(range(self.power())):
            pairs = [pair for pair in self.pairs if self.levels[pair[1]] == level and self._follows(found, pair)]
            found.append(pairs[0])
        return found

    def _follows(self, found, pair):
        return found == [] or self.sorts.leading(found[-1][1], pair[0]) is not None
