"""What the document says of rows of rules, done plainly and slowly, for the tests to compare with."""

from functools import lru_cache

from patternways.rules import table_of_rules
from tests.brute import view


@lru_cache(maxsize=None)
def table_for(rules):
    """The table of rules, worked out once."""
    return table_of_rules(rules)


def walk(table, text):
    """The pieces of a text, read with the table of the rules: each one by all ways on from a border."""
    rows, labels = table
    found, first = [], 0
    while first < len(text):
        piece, stand = (None, first, first + 1), 0
        for past in range(first, len(text)):
            stand = rows[stand]["abc".index(text[past])]
            if labels[stand] is not None:
                piece = (labels[stand], first, past + 1)
        found.append(piece)
        first = piece[2]
    return found


def put_for(rules, piece, text):
    """What is put for a piece of a text."""
    kind, first, past = piece
    if kind is None:
        return text[first:past]
    put = rules[1][kind][1]
    return put[1] if put[0] == "word" else put[1] + text[first:past] + put[2]


def row_change(row, text):
    """The change of a text by a row."""
    for rules in row:
        text = "".join(put_for(rules, piece, text) for piece in walk(table_for(rules), text))
    return text


def read_on(rules, stand, text):
    """What comes of a text that is read on from a stand, or from None; None if it cannot be."""
    rows, labels = table_for(rules)
    if stand is None:
        return row_change((rules,), text)
    end = None
    for past, letter in enumerate(text, 1):
        stand = rows[stand]["abc".index(letter)]
        if labels[stand] is not None:
            end = (labels[stand], past)
    if end is None:
        return None
    kind, past = end
    put = rules[1][kind][1]
    return (put[1] if put[0] == "word" else text[:past] + put[2]) + row_change((rules,), text[past:])


def row_prospects(row, text):
    """The prospects of a text for a row."""
    outlook = view(table_for(row[0]), text)
    if len(row) == 1:
        return (outlook, ())
    come = [read_on(row[0], stand, text) for stand in [None, *range(len(outlook))]]
    return (outlook, tuple(None if found is None else row_prospects(row[1:], found) for found in come))


def row_standing(row, text, place):
    """The standing at a place of a text, and what has come there."""
    standing = []
    for rules in row:
        rows, _ = table_for(rules)
        stand, come = None, ""
        for kind, first, past in walk(table_for(rules), text):
            if past <= place:
                come += put_for(rules, (kind, first, past), text)
            elif first < place:
                stand = 0
                for letter in text[first:place]:
                    stand = rows[stand]["abc".index(letter)]
                put = rules[1][kind][1]
                come += put[1] + text[first:place] if put[0] == "round" else ""
        standing.append(stand)
        text = row_change((rules,), text)
        assert text.startswith(come)
        place = len(come)
    return tuple(standing), text[:place]


def reduced(one, other):
    """Two texts without what both begin with."""
    while one and other and one[0] == other[0]:
        one, other = one[1:], other[1:]
    return one, other


class Rests:
    """Rests for rows: their prospects, all by the words of the document, and which rests can be behind a letter."""

    def __init__(self, rows, rests):
        self.rows, self.rests = rows, rests
        self.known = {self.seen(text): index for index, text in enumerate(rests)}

    def seen(self, text):
        """The prospects of a text for all of the rows."""
        return tuple(row_prospects(row, text) for row in self.rows)

    def are_rests(self):
        """Whether these are rests."""
        size = self.rows[0][0][0]
        return ("" in self.rests and len(self.known) == len(self.rests)
                and all(self.seen(letter + text) in self.known for text in self.rests for letter in "abc"[:size]))

    def ways(self):
        """For each index of a rest, the pairs of a letter and an index such that it has the same prospects."""
        found = {index: [] for index in range(len(self.rests))}
        for index, text in enumerate(self.rests):
            for letter in "abc"[:self.rows[0][0][0]]:
                found[self.known[self.seen(letter + text)]].append((letter, index))
        return found


def match_plainly(one, other, rests):
    """The dict of a Match with such rests, by the words of the document; None if the rows part."""
    known = Rests([one, other], rests)
    ways = known.ways()
    start = [(index, (None,) * len(one), (None,) * len(other)) for index in range(len(rests))]
    found = {triple: ("", "") for triple in start}
    queue = [(triple, "") for triple in start]
    for triple, text in queue:
        for letter, index in ways[triple[0]]:
            longer = text + letter
            first, second = [row_standing(row, longer + rests[index], len(longer)) for row in (one, other)]
            later, pair = (index, first[0], second[0]), reduced(first[1], second[1])
            if "" not in pair or rests[index] == "" and pair != ("", "") or found.get(later, pair) != pair:
                return None
            if later not in found:
                found[later] = pair
                queue.append((later, longer))
    return found


def twos_plainly(row, rests):
    """How many pairs of two different rests, each with a standing, come about behind some text."""
    ways = Rests([row], rests).ways()
    start = (None,) * len(row)
    found = {((one, start), (other, start)): "" for one in range(len(rests)) for other in range(one, len(rests))}
    queue = list(found)
    for two in queue:
        text = found[two]
        for letter, one in ways[two[0][0]]:
            for same, other in ways[two[1][0]]:
                if same == letter:
                    longer = text + letter
                    later = tuple(sorted([(index, row_standing(row, longer + rests[index], len(longer))[0])
                                          for index in (one, other)], key=lambda half: half[0]))
                    if later not in found:
                        found[later] = longer
                        queue.append(later)
    return sum(one[0] != other[0] for one, other in found)


def begin_of_all(some):
    """The longest text with which all of some texts begin."""
    least, most = min(some), max(some)
    past = 0
    while past < len(least) and least[past] == most[past]:
        past += 1
    return least[:past]


def sure_so_far(row, text, behind):
    """With what the changes of all texts begin that are a text and one of some texts behind it."""
    return begin_of_all([row_change(row, text + more) for more in behind])


def told_plainly(moves, ends, stand, text):
    """What is told of a text from a stand, and the stand to which it leads."""
    out = ""
    for letter in text:
        stand, more = moves[(stand, letter)]
        out += more
    return out + ends[stand], stand


def teller_plainly(row, moves, ends, rests):
    """The dict of a Teller with such moves and rests, by the words of the document; None if there is none."""
    ways = Rests([row], rests).ways()
    found = {(index, (None,) * len(row), 0): ("", "") for index in range(len(rests))}
    queue = [(triple, "") for triple in found]
    for triple, text in queue:
        for letter, index in ways[triple[0]]:
            longer = text + letter
            standing, come = row_standing(row, longer + rests[index], len(longer))
            told, stand = told_plainly(moves, [""] * len(ends), 0, longer)
            later, pair = (index, standing, stand), reduced(come, told)
            if "" not in pair or rests[index] == "" and pair[1] + ends[stand] != pair[0]:
                return None
            if later not in found:
                found[later] = pair
                queue.append((later, longer))
            elif found[later] != pair:
                return None
    return found


def is_lagging(row, begin, ring, one, other):
    """Whether these are as a Lagging has them, by the words of the document."""
    if not ring:
        return False
    pairs = []
    for place in (len(begin), len(begin) + len(ring)):
        pairs.append([row_standing(row, begin + ring + rest, place) for rest in (one, other)])
    if any(row_prospects(row, ring + rest) != row_prospects(row, rest) for rest in (one, other)):
        return False
    if any(before[0] != behind[0] for before, behind in zip(*pairs)):
        return False
    return reduced(pairs[0][0][1], pairs[0][1][1]) != reduced(pairs[1][0][1], pairs[1][1][1])
