"""Two that read the same texts: how far one of them is ahead of the other, for each rest behind."""

from patternways.errors import TooLarge
from patternways.kinds import LETTERS, is_between, is_integer, is_tuple_of
from patternways.machines import text_by


def common_beginning(one, other):
    """Return the longest text with which two texts begin."""
    if other.startswith(one):
        return one
    count = 0
    while count < len(other) and one[count] == other[count]:
        count += 1
    return one[:count]


def parted(one, other):
    """Return a pair of two texts without what both begin with."""
    past = len(common_beginning(one, other))
    return one[past:], other[past:]


class Course:
    """What two come to behind texts: triples of a rest and of a standing of each, with pairs of texts.

    A pair has what has come of the one and of the other, without what both begin with, behind the text by which the
    triple was first come to. one and other are functions: of a standing, a letter, and a rest behind the letter, each
    returns its standing behind the letter and what comes by it. If there are more than most triples, if that is given,
    the error is TooLarge.
    """

    def __init__(self, rests, starts, one, other, most=None):
        self.rests = rests
        self.pairs = {(rest, *starts): ("", "") for rest in range(len(rests.texts))}
        self.before = {triple: None for triple in self.pairs}
        # the first two texts found of which at least one has two different changes
        self.clash = []
        queue = list(self.pairs)
        at = 0
        while at < len(queue):
            if most is not None and len(queue) > most:
                raise TooLarge(f"there are more than {most} triples")
            queue.extend(self._new_behind(queue[at], one, other))
            at += 1

    def _new_behind(self, triple, one, other):
        """Go on from a triple by all letters and rests; return the triples that are new."""
        found = []
        ahead, behind = self.pairs[triple]
        for letter, rest in self.rests.ways[triple[0]]:
            first, more = one(triple[1], letter, rest)
            second, others = other(triple[2], letter, rest)
            later = (rest, first, second)
            pair = parted(ahead + more, behind + others)
            if later not in self.pairs:
                self.pairs[later] = pair
                self.before[later] = (triple, letter)
                found.append(later)
            # at the end of texts both have nothing left to come: if they part anywhere, there they have two pairs
            elif pair != self.pairs[later]:
                self._note(triple, letter, later)
        return found

    def _note(self, triple, letter, later):
        if not self.clash:
            rest = self.rests.texts[later[0]]
            self.clash = [text_by(self.before, triple) + LETTERS[letter] + rest, text_by(self.before, later) + rest]


def are_pairs_of(ahead, pairs, numbers, is_second):
    """Return whether a dict is that of some triples to pairs, if its rests have other numbers.

    numbers has the number of a rest for each index; is_second tells whether something has the form of what is the
    third one in a triple.
    """
    if not isinstance(ahead, dict) or len(ahead) != len(pairs):
        return False
    for triple, pair in ahead.items():
        if not is_tuple_of(triple, 3) or not is_between(triple[0], 0, len(numbers) - 1):
            return False
        if not is_standing(triple[1]) or not is_second(triple[2]):
            return False
        later = (numbers[triple[0]], triple[1], triple[2])
        if later not in pairs or pair != pairs[later]:
            return False
    return True


def is_standing(value):
    """Return whether something has the form of a standing."""
    return isinstance(value, tuple) and all([item is None or is_integer(item) for item in value])
