"""What is sure of what comes of a text, whatever is behind it."""

from patternways.courses import common_beginning
from patternways.kinds import letter_numbers
from patternways.pairs import ways_from


class Futures:
    """For pairs of a rest and a standing: what all texts begin with that can still come from there.

    What can still come is what comes of all texts with the prospects of the rest, read on from the standing. The
    pairs are those that are come to from some first ones.
    """

    def __init__(self, rests, starts):
        self.ways = ways_from(rests, starts)
        self.sure = {}
        self._shorten()

    def _shorten(self):
        # behind the empty text nothing more comes; each other pair begins with what is known of one way on, and is
        # shortened to what all its ways on begin with, until nothing changes
        before = {pair: [] for pair in self.ways}
        for pair, ways in self.ways.items():
            for _, later, _ in ways:
                before[later].append(pair)
        waiting = [pair for pair in self.ways if pair[0] == 0]
        for pair in waiting:
            self.sure[pair] = ""
        while waiting:
            later = {}
            for pair in waiting:
                for ahead in before[pair]:
                    later[ahead] = True
            waiting = []
            for pair in later:
                if self._is_shorter(pair):
                    waiting.append(pair)

    def _is_shorter(self, pair):
        """Take what is sure at a pair from its ways on; return whether it has changed."""
        if pair[0] == 0:
            return False
        text = None
        for _, later, part in self.ways[pair]:
            if later in self.sure:
                whole = part + self.sure[later]
                text = whole if text is None else common_beginning(text, whole)
        changed = pair not in self.sure or self.sure[pair] != text
        self.sure[pair] = text
        return changed


def standing_ahead_of(rests, text, rest):
    """Return the standing behind a text with a rest behind it, and what has come there."""
    letters = letter_numbers(text)
    behind = [rest]
    for letter in reversed(letters):
        behind.append(rests.rows[behind[-1]][letter])
    behind.reverse()
    standing = rests.start(0)
    parts = []
    for place, letter in enumerate(letters):
        standing, part = rests.stepped(0, standing, letter, behind[place + 1])
        parts.append(part)
    return standing, "".join(parts)


def sure_behind_text(rests, text):
    """Return what is sure behind a text."""
    ends = [(rest, standing_ahead_of(rests, text, rest)) for rest in range(len(rests.texts))]
    futures = Futures(rests, [(rest, standing) for rest, (standing, _) in ends])
    found = None
    for rest, (standing, come) in ends:
        whole = come + futures.sure[(rest, standing)]
        found = whole if found is None else common_beginning(found, whole)
    return found
