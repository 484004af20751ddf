"""What is sure behind a text, and rows told as their texts are read."""

from patternways.checks import check_text
from patternways.courses import Course, are_pairs_of, parted
from patternways.futures import standing_ahead_of, sure_behind_text
from patternways.kinds import LETTERS, copied, copied_list, is_between, is_integer, is_text, is_tuple_of
from patternways.lags import Search, Twos
from patternways.rests import rests_of_row
from patternways.tellers import Machine


class Teller:
    """The teller of a row with the fewest stands, with all that shows that it is."""

    def __init__(self, moves, ends, rests, ahead, forks, partings):
        self.moves = copied(moves)
        self.ends = copied_list(ends)
        self.rests = copied_list(rests)
        self.ahead = copied(ahead)
        self.forks = copied_list(forks)
        self.partings = copied(partings)

    def __eq__(self, other):
        return (isinstance(other, Teller) and self.moves == other.moves and self.ends == other.ends
                and self.rests == other.rests and self.ahead == other.ahead and self.forks == other.forks
                and self.partings == other.partings)

    def __len__(self):
        return len(self.ends)

    def tell(self, text):
        """Return what is told of a text from stand 0."""
        return _told(self.moves, self.ends, 0, text)

    def shows(self, row):
        """Return whether this is as described for a row."""
        rests, ring = _judged(row)
        if ring is not None:
            return False
        machine = Machine(rests)
        if not _are_moves(self.moves, machine.find_moves()) or self.ends != machine.ends:
            return False
        numbers = rests.numbers_of(self.rests)
        if numbers is None or not are_pairs_of(self.ahead, _course(rests, self.moves).pairs, numbers, is_integer):
            return False
        return self._has_forks(rests.size) and self._has_partings(rests.size)

    def _has_forks(self, size):
        if not isinstance(self.forks, list) or len(self.forks) != len(self.ends):
            return False
        for stand, fork in enumerate(self.forks):
            if not is_tuple_of(fork, 2) or not is_text(size, fork[0]) or not is_text(size, fork[1]):
                return False
            one, other = [_told(self.moves, self.ends, stand, text) for text in fork]
            if one != "" and other != "" and one[0] == other[0]:
                return False
        return True

    def _has_partings(self, size):
        stands = range(len(self.ends))
        if not isinstance(self.partings, dict) or len(self.partings) != len(stands) * (len(stands) - 1) // 2:
            return False
        for pair, text in self.partings.items():
            if not is_tuple_of(pair, 2) or not is_between(pair[0], 0, len(stands) - 1):
                return False
            if not is_between(pair[1], pair[0] + 1, len(stands) - 1) or not is_text(size, text):
                return False
            if _told(self.moves, self.ends, pair[0], text) == _told(self.moves, self.ends, pair[1], text):
                return False
        return True


class Lagging:
    """Texts that show that what is told of a row falls behind as far as one likes."""

    def __init__(self, begin, ring, one, other):
        self.begin = begin
        self.ring = ring
        self.one = one
        self.other = other

    def __eq__(self, other):
        return (isinstance(other, Lagging) and self.begin == other.begin and self.ring == other.ring
                and self.one == other.one and self.other == other.other)

    def shows(self, row):
        """Return whether this is as described for a row."""
        rests = rests_of_row(row)
        # too many pairs are refused here, too
        Twos(rests)
        texts = [self.begin, self.ring, self.one, self.other]
        if not all([is_text(rests.size, text) for text in texts]) or self.ring == "":
            return False
        before = []
        behind = []
        for text in (self.one, self.other):
            rest = rests.number_of(text)
            later = rests.number_of(self.ring + text)
            before.append(standing_ahead_of(rests, self.begin, later))
            behind.append(standing_ahead_of(rests, self.begin + self.ring, rest))
            if rest != later or before[-1][0] != behind[-1][0]:
                return False
        return parted(before[0][1], before[1][1]) != parted(behind[0][1], behind[1][1])


def sure(row, text):
    """Return what is sure behind a text: with what all changes of texts begin that begin with it."""
    rests = rests_of_row(row)
    check_text(rests.size, text)
    return sure_behind_text(rests, text)


def telling(row):
    """Return a Teller or a Lagging."""
    rests, ring = _judged(row)
    if ring is not None:
        begin, again, one, other = ring
        return Lagging(begin, again, rests.texts[one], rests.texts[other])
    machine = Machine(rests)
    moves = machine.find_moves()
    ahead = _course(rests, moves).pairs
    return Teller(moves, machine.ends, rests.texts, ahead, machine.find_forks(), machine.find_partings())


def _judged(row):
    """Return the rests of a row, and what shows that it falls behind: begin, ring and two rests; or None."""
    rests = rests_of_row(row)
    return rests, Search(Twos(rests)).lag()


def _course(rests, moves):
    return Course(rests, (rests.start(0), 0),
                  lambda standing, letter, rest: rests.stepped(0, standing, letter, rest),
                  lambda stand, letter, rest: moves[(stand, LETTERS[letter])])


def _told(moves, ends, stand, text):
    parts = []
    for letter in text:
        stand, part = moves[(stand, letter)]
        parts.append(part)
    return "".join(parts) + ends[stand]


def _are_moves(moves, others):
    """Return whether moves have the right form and are the same as others."""
    if not isinstance(moves, dict) or moves != others:
        return False
    # True is not 1
    if not all([is_integer(stand) for stand, _ in moves]):
        return False
    return all([is_integer(stand) for stand, _ in moves.values()])
