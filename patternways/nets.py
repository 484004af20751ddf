"""Nets: places from each of which a letter leads to several at once, and the least tables of what leads to an end."""

from patternways.checks import MOST_STANDS
from patternways.errors import TooLarge
from patternways.kinds import bits


class Net:
    """Places, as the bits of integers; moves has, for each letter, a dict from places to all to which it leads.

    ends has the places at which a text can end.
    """

    def __init__(self, size):
        self.moves = [{} for _ in range(size)]
        self.having = [0] * size
        self.ends = 0

    def link(self, place, letter, later):
        """Let a letter lead from a place to later places, too."""
        self.moves[letter][place] = self.moves[letter].get(place, 0) | later
        self.having[letter] |= 1 << place

    def step(self, places, letter):
        """Return the places to which a letter leads from places."""
        found = 0
        moves = self.moves[letter]
        for place in bits(places & self.having[letter]):
            found |= moves[place]
        return found

    def leading_to(self, places, letter):
        """Return the places from which a letter leads to one of some places."""
        return sum([1 << place for place, later in self.moves[letter].items() if later & places])


def table_of_net(net, start):
    """Return the least table of the texts that lead from places to an end; TooLarge if it has more than 40 stands.

    There may be far more sets of places than stands. So the stands are guessed, by some texts that tell them apart,
    until nothing speaks against it.
    """
    tests = [net.ends]
    while True:
        found, rows = _guessed(net, start, tests)
        test = _missed(net, found, rows, tests)
        if test is None:
            return tuple(rows), tuple([places & net.ends != 0 for places in found])
        tests.append(test)


def _guessed(net, start, tests):
    """Return sets of places, numbered by the first texts that lead there, that are told apart by tests, and rows."""
    found = [start]
    numbers = {_told(start, tests): 0}
    rows = []
    while len(rows) < len(found):
        places = found[len(rows)]
        row = []
        for letter in range(len(net.moves)):
            later = net.step(places, letter)
            key = _told(later, tests)
            if key not in numbers:
                numbers[key] = len(found)
                found.append(later)
            row.append(numbers[key])
        if len(found) > MOST_STANDS:
            raise TooLarge("the table has more than 40 stands")
        rows.append(tuple(row))
    return found, rows


def _told(places, tests):
    return tuple([places & test != 0 for test in tests])


def _missed(net, found, rows, tests):
    """Return a test that tells apart two sets of places that are taken for one stand, None if they all are alike.

    Two sets are alike if all is that follows from it, where what was found or taken to be alike before is put
    together: what is alike to a part of a set can be added to it.
    """
    letters = range(len(rows[0]))
    queue = [(net.step(places, letter), found[row[letter]], None, letter)
             for places, row in zip(found, rows) for letter in letters]
    laws = []
    at = 0
    while at < len(queue):
        one, other, _, _ = queue[at]
        if _filled(one, laws) != _filled(other, laws):
            for test in tests:
                if (one & test != 0) != (other & test != 0):
                    return _test_for(net, queue, at, test)
            laws.append((one, one | other))
            laws.append((other, one | other))
            queue.extend([(net.step(one, letter), net.step(other, letter), at, letter) for letter in letters])
        at += 1
    return None


def _filled(places, laws):
    """Return all places that can be added to places by laws: pairs of a set and of a larger one that is alike."""
    before = None
    while before != places:
        before = places
        for part, whole in laws:
            if part & ~places == 0:
                places |= whole
    return places


def _test_for(net, queue, at, test):
    """Return all places from which the letters that led to what stands in a queue lead to a place of a test."""
    while queue[at][2] is not None:
        test = net.leading_to(test, queue[at][3])
        at = queue[at][2]
    return test
