"""Texts that come about by a row of rules, what they come from, and evidence that a text comes from none."""

from patternways.checks import check_table, check_text, table_size
from patternways.courses import is_standing
from patternways.errors import Unequal
from patternways.kinds import LETTERS, copied_list, is_between, is_integer, is_text, is_tuple_of, letter_numbers
from patternways.machines import least_of, stand_after, text_by
from patternways.nets import Net, table_of_net
from patternways.pairs import starts_of, ways_from, ways_on
from patternways.rests import rests_of_row
from patternways.stages import change_of, tables_for


class Source:
    """A text that has another one as its change."""

    def __init__(self, text):
        self.text = text

    def __eq__(self, other):
        return isinstance(other, Source) and self.text == other.text

    def shows(self, row, text):
        """Return whether this is as described for a row and a text."""
        rests = _rests_for(row, text)
        return is_text(rests.size, self.text) and change_of(row, tables_for(row, text), self.text) == text


class Barren:
    """Rests, and all that texts can come to as long as what comes of them begins a text, which none of them ends."""

    def __init__(self, rests, places):
        self.rests = copied_list(rests)
        self.places = copied_list(places)

    def __eq__(self, other):
        return isinstance(other, Barren) and self.rests == other.rests and self.places == other.places

    def shows(self, row, text):
        """Return whether this is as described for a row and a text."""
        rests = _rests_for(row, text)
        found, end = _searched(rests, text)
        numbers = rests.numbers_of(self.rests)
        if end is not None or numbers is None or not isinstance(self.places, list):
            return False
        known = {}
        for triple in self.places:
            if not _is_triple(triple, len(numbers)):
                return False
            known[(numbers[triple[0]], triple[1], triple[2])] = True
        return len(known) == len(found) and all([triple in found for triple in known])


def comes(row):
    """Return the least table of the texts that come about by a row."""
    rests = rests_of_row(row)
    spelling = Spelling(rests)
    return table_of_net(spelling.net, spelling.starts)


def before(row, table):
    """Return the least table of the texts whose change by a row is a word of a table."""
    rests = rests_of_row(row)
    check_table(table)
    if table_size(table) != rests.size:
        raise Unequal("the row and the table are not of one size")
    rows, ends = least_of(table[0], table[1])
    ways = ways_from(rests, starts_of(rests))
    numbers = {}
    for pair in ways:
        for stand in range(len(rows)):
            numbers[(pair, stand)] = len(numbers)
    net = Net(rests.size)
    for (pair, stand), number in numbers.items():
        # behind the whole text, what is left to come is nothing
        if pair[0] == 0 and ends[stand]:
            net.ends |= 1 << number
        for letter, later, text in ways[pair]:
            net.link(number, letter, 1 << numbers[(later, stand_after(rows, stand, letter_numbers(text)))])
    return table_of_net(net, sum([1 << numbers[(pair, 0)] for pair in starts_of(rests)]))


def source(row, text):
    """Return a Source or a Barren for a row and a text."""
    rests = _rests_for(row, text)
    found, end = _searched(rests, text)
    if end is None:
        return Barren(rests.texts, list(found))
    return Source(text_by(found, end))


def _rests_for(row, text):
    rests = rests_of_row(row)
    check_text(rests.size, text)
    return rests


def _is_triple(value, many):
    if not is_tuple_of(value, 3) or not is_between(value[0], 0, many - 1):
        return False
    return is_standing(value[1]) and is_integer(value[2])


def _searched(rests, text):
    """Return a dict of all triples of a rest, a standing and a place of a text, and one that ends it, or None.

    The dict has for each triple the one ahead of it, with the letter between them, None for the first ones.
    """
    queue = [(rest, standing, 0) for rest, standing in starts_of(rests)]
    found = {triple: None for triple in queue}
    at = 0
    while at < len(queue):
        rest, standing, place = queue[at]
        for letter, (later, behind), part in ways_on(rests, (rest, standing)):
            triple = (later, behind, place + len(part))
            if triple not in found and text.startswith(part, place):
                found[triple] = (queue[at], letter)
                queue.append(triple)
        at += 1
    ends = [triple for triple in queue if triple[0] == 0 and triple[2] == len(text)]
    return found, ends[0] if ends else None


class Spelling:
    """The net of all that comes about by a row: each of its places is a text that comes next, with a pair behind it.

    Place 0 has no letters: there, texts end.
    """

    def __init__(self, rests):
        self.ways = ways_from(rests, starts_of(rests))
        self.net = Net(rests.size)
        self.net.ends = 1
        self.places = {}
        self.queue = []
        self.known = {}
        self.starts = 0
        for pair in starts_of(rests):
            self.starts |= self._behind(pair)
        at = 0
        while at < len(self.queue):
            pair, text = self.queue[at]
            later = self._behind(pair) if len(text) == 1 else 1 << self._place(pair, text[1:])
            self.net.link(at + 1, LETTERS.index(text[0]), later)
            at += 1

    def _place(self, pair, text):
        if (pair, text) not in self.places:
            self.queue.append((pair, text))
            self.places[(pair, text)] = len(self.queue)
        return self.places[(pair, text)]

    def _behind(self, pair):
        if pair not in self.known:
            self.known[pair] = self._reached(pair)
        return self.known[pair]

    def _reached(self, pair):
        """Return the places to which one comes from a pair without a letter that comes."""
        places = 0
        seen = {pair: True}
        waiting = [pair]
        while waiting:
            one = waiting.pop()
            if one[0] == 0:
                places |= 1
            for _, later, text in self.ways[one]:
                if text != "":
                    places |= 1 << self._place(later, text)
                elif later not in seen:
                    seen[later] = True
                    waiting.append(later)
        return places
