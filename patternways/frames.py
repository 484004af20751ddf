"""Frames: what is to be gone through in a pattern, and the sorts of the stops that are come to.

Frames have numbers here, and a rest is a tuple of these: patterns can be nested too deep to be keys themselves.
"""

from patternways.kinds import LETTERS

BEGUN = 0
CLOSED = 1


class Frames:
    """The frames of a pattern, as they are met, and how often the stops of a rest have each sort.

    The sort of a stop is its rest. first is the rest of the whole pattern; groups is how many groups it has.
    """

    def __init__(self, size, pattern):
        self.size = size
        self.found = []
        self.branches = []
        self.sorts = {(): {(): 1}}
        numbered, self.groups = _numbered(pattern, 0)
        self.first = (self._number_of(numbered),)

    def is_stop(self, rest):
        """Return whether a rest is that of a stop: it is empty, or begins with letters."""
        return rest == () or self.found[rest[0]][0] == "one"

    def branches_of(self, rest):
        """Return the rests with which one goes on from a rest that is no stop, in order, each with an act or None.

        An act is a pair of BEGUN or CLOSED and the number of a group: what is done to it there.
        """
        return [(ahead + rest[1:], act) for ahead, act in self._branches_at(rest[0])]

    def settled(self, rest):
        """Return a rest as it is in a stop."""
        return tuple([self._number_of(_in_stop(self.found[number])) for number in rest])

    def sorts_of(self, rest):
        """Return a dict from the sorts of the stops of a rest to how often each comes, in their order."""
        if rest not in self.sorts:
            self.sorts[rest] = self._sorts_of_one(rest) if len(rest) == 1 else self._sorts_of_more(rest)
        return self.sorts[rest]

    def behind(self, sort, letter):
        """Return the rest behind a letter; None if it does not take a stop of this sort."""
        if sort == () or LETTERS[letter] not in self.found[sort[0]][1]:
            return None
        return sort[1:]

    def spelled(self, rest):
        """Return a rest as a tuple of frames."""
        return tuple([self.found[number] for number in rest])

    def _sorts_of_one(self, rest):
        if self.is_stop(rest):
            return {rest: 1}
        found = {}
        for later, _ in self.branches_of(rest):
            for sort, many in self.sorts_of(later).items():
                found[sort] = found.get(sort, 0) + many
        return found

    def _sorts_of_more(self, rest):
        # what the first frame comes to does not depend on what is left behind it
        left = rest[1:]
        found = {}
        for sort, many in self.sorts_of(rest[:1]).items():
            if sort == ():
                for later, times in self.sorts_of(left).items():
                    found[later] = found.get(later, 0) + many * times
            else:
                later = sort + self.settled(left)
                found[later] = found.get(later, 0) + many
        return found

    def _branches_at(self, number):
        if self.branches[number] is None:
            ways = _ways_on(self.found[number])
            self.branches[number] = [(tuple([self._number_of(frame) for frame in ahead]), act) for ahead, act in ways]
        return self.branches[number]

    def _number_of(self, frame):
        if frame not in self.found:
            self.found.append(frame)
            self.branches.append(None)
        return self.found.index(frame)


def _numbered(pattern, count):
    """Return a pattern in which groups are written with their numbers, from a count on, and the count behind them."""
    word = pattern[0]
    if word == "group":
        part, past = _numbered(pattern[1], count + 1)
        return ("group", part, count), past
    if word == "again":
        part, past = _numbered(pattern[1], count)
        return ("again", part, *pattern[2:]), past
    if word not in ("row", "any"):
        return pattern, count
    parts = []
    for inner in pattern[1:]:
        part, count = _numbered(inner, count)
        parts.append(part)
    return (word, *parts), count


def _in_stop(frame):
    if frame[0] != "turn":
        return frame
    _, again, done, _ = frame
    return ("turn", again, min(done, again[2]) if again[3] is None else done, False)


def _ways_on(frame):
    """Return pairs of frames with which one goes on in the place of a frame, in order, and of an act or None."""
    word = frame[0]
    if word == "none":
        return []
    if word == "empty":
        return [((), None)]
    if word == "row":
        return [(frame[1:], None)]
    if word == "any":
        return [((part,), None) for part in frame[1:]]
    if word == "group":
        _, part, group = frame
        return [((part, ("close", group)), (BEGUN, group))]
    if word == "close":
        return [((), (CLOSED, frame[1]))]
    if word == "again":
        return [((("turn", frame, 0, False),), None)]
    return _turns(frame)


def _turns(frame):
    _, again, done, is_new = frame
    _, part, least, most, way = again
    if is_new and done > least:
        return []
    ways = []
    if most is None or done < most:
        ways.append(((part, ("turn", again, done + 1, True)), None))
    if done >= least:
        ways.append(((), None))
    if way == "few":
        ways.reverse()
    return ways
