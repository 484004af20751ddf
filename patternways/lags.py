"""Pairs of two rests, each with a standing, behind one text; and texts by which what is told falls behind."""

from patternways.courses import parted
from patternways.errors import TooLarge
from patternways.kinds import LETTERS
from patternways.machines import heights_of

MOST_PAIRS = 600


class Twos:
    """Twos of a rest and a standing that come about behind one text, and how letters lead on from them.

    ways has, for each two, a list of a letter, of the two behind it, and of what comes by it for the one and for the
    other. If more than 600 come about of two different rests, whichever of them is first, the error is TooLarge.
    """

    def __init__(self, rests):
        self.rests = rests
        self.ways = {}
        self.counted = {}
        standing = rests.start(0)
        many = range(len(rests.texts))
        self.starts = [((one, standing), (other, standing)) for one in many for other in many if one <= other]
        queue = []
        for two in self.starts:
            self._meet(two, queue)
        at = 0
        while at < len(queue):
            ways = self._ways_on(queue[at])
            self.ways[queue[at]] = ways
            for _, two, _, _ in ways:
                self._meet(two, queue)
            at += 1

    def _meet(self, two, queue):
        one, other = two
        key = two if one[0] <= other[0] else (other, one)
        if two not in self.ways:
            self.ways[two] = []
            queue.append(two)
        if one[0] != other[0] and key not in self.counted:
            self.counted[key] = True
            if len(self.counted) > MOST_PAIRS:
                raise TooLarge("there are more than 600 pairs of two rests, each with a standing")

    def _ways_on(self, two):
        one, other = two
        found = []
        for letter, first in self.rests.ways[one[0]]:
            for same, second in self.rests.ways[other[0]]:
                # behind one and the same, the order of the later ones makes no difference
                if same == letter and (one != other or first <= second):
                    standing, more = self.rests.stepped(0, one[1], letter, first)
                    behind, others = self.rests.stepped(0, other[1], letter, second)
                    found.append((letter, ((first, standing), (second, behind)), more, others))
        return found


class Search:
    """A search for a two that is come to again by a ring, with another pair of what has come."""

    def __init__(self, twos):
        self.rests = twos.rests
        self.starts = twos.starts
        goals = {two: [(way[0], way[1]) for way in ways] for two, ways in twos.ways.items()}
        ended = heights_of(goals)
        # from what is left out, no two is ever come to again
        self.ways = {two: [way for way in ways if way[1] not in ended] for two, ways in twos.ways.items()}
        self.seen = {}
        self.path = []
        self.places = {}

    def lag(self):
        """Return begin, ring, and the numbers of two rests; None if there is no such ring."""
        for start in self.starts:
            ring = self._from(start)
            if ring is not None:
                return ring
        return None

    def _from(self, start):
        # the path has, for each two on it, the letter ahead of it, the pair of what has come, and how many ways on
        # were tried
        self._push(start, ("", ""), "")
        while self.path:
            two, pair, _, tried = self.path[-1]
            if tried == len(self.ways[two]):
                self.path.pop()
                self.places.pop(two)
                continue
            self.path[-1][3] = tried + 1
            letter, later, more, others = self.ways[two][tried]
            behind = parted(pair[0] + more, pair[1] + others)
            if later in self.places and self.path[self.places[later]][1] != behind:
                return self._ring(later, letter)
            if (later, behind) not in self.seen:
                self._push(later, behind, LETTERS[letter])
        return None

    def _push(self, two, pair, letter):
        self.seen[(two, pair)] = True
        self.places[two] = len(self.path)
        self.path.append([two, pair, letter, 0])

    def _ring(self, two, letter):
        place = self.places[two]
        letters = [step[2] for step in self.path] + [LETTERS[letter]]
        return "".join(letters[:place + 1]), "".join(letters[place + 1:]), two[0][0], two[1][0]
