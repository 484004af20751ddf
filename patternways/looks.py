"""How far one must look ahead until a piece is sure."""

from patternways.checks import check_text, table_size
from patternways.errors import BadNumber
from patternways.kinds import LETTERS, copied, is_between, is_integer, is_text, is_tuple_of, letter_numbers
from patternways.machines import first_texts, heights_of, stand_after
from patternways.outlooks import alive_stands, pieces_of, sure_behind
from patternways.rules import table_of_rules


class Look:
    """The look of rules: heights show that no more is needed, a piece of a text that no less is enough."""

    def __init__(self, number, text, piece, heights):
        self.number = number
        self.text = text
        self.piece = copied(piece)
        self.heights = copied(heights)

    def __eq__(self, other):
        return (isinstance(other, Look) and self.number == other.number and self.text == other.text
                and self.piece == other.piece and self.heights == other.heights)

    def shows(self, rules):
        """Return whether this is as described for the rules."""
        table = table_of_rules(rules)
        if not is_integer(self.number) or not _are_heights(table, self.heights, self.number):
            return False
        if self.number == 0:
            return self.text is None and self.piece is None
        return _is_unsure(table, self.text, self.piece) and len(self.text) == self.piece[2] + self.number - 1


class Endless:
    """Texts that show that there is no look: a piece that is not sure, however often a ring is put behind it."""

    def __init__(self, ahead, ring, rest):
        self.ahead = ahead
        self.ring = ring
        self.rest = rest

    def __eq__(self, other):
        return (isinstance(other, Endless) and self.ahead == other.ahead and self.ring == other.ring
                and self.rest == other.rest)

    def shows(self, rules):
        """Return whether this is as described for the rules."""
        table = table_of_rules(rules)
        texts = [self.ahead, self.ring, self.rest]
        if not all([is_text(table_size(table), text) for text in texts]) or "" in (self.ahead, self.ring):
            return False
        return _is_endless(table, self.ahead, self.ring, self.rest)


def judge_look(rules):
    """Return a Look or an Endless."""
    table = table_of_rules(rules)
    goals = _goals(table)
    heights = heights_of(goals)
    if len(heights) < len(goals):
        return _endless(table, goals, heights)
    if not heights:
        return Look(0, None, None, {})
    number = max(heights.values()) + 1
    stand, text = _begin(table, [stand for stand in heights if heights[stand] == number - 1])
    while heights[stand] > 0:
        height = heights[stand]
        letter, stand = [way for way in goals[stand] if heights[way[1]] == height - 1][0]
        text += LETTERS[letter]
    return Look(number, text, pieces_of(table, text)[0], heights)


def look(rules):
    """Return the look of rules, None if there is none."""
    found = judge_look(rules)
    return found.number if isinstance(found, Look) else None


def sure(rules, text, number):
    """Return behind how many letters the piece with a number is sure, None if it is not sure behind all of them."""
    table = table_of_rules(rules)
    check_text(rules[0], text)
    pieces = pieces_of(table, text)
    if not is_between(number, 0, len(pieces) - 1):
        raise BadNumber("this is not the number of a piece of the text")
    return sure_behind(table, text, pieces, number)


def _is_begin(table, stand):
    """Return whether a piece, as far as it is known, can end at a stand."""
    rows, labels = table
    return labels[stand] is not None or stand in rows[0]


def _ways_on(table, alive, stand):
    """Return the pairs of a letter and of the stand to which it leads, if that is alive and has no label."""
    rows, labels = table
    return [(letter, later) for letter, later in enumerate(rows[stand]) if alive[later] and labels[later] is None]


def _goals(table):
    """Return a dict from the stands where a piece is not sure to their ways on to such stands."""
    alive = alive_stands(table)
    stands = [stand for stand in range(len(alive)) if alive[stand] and _is_begin(table, stand)]
    goals = {stand: _ways_on(table, alive, stand) for stand in stands}
    while len(stands) > 0:
        ways = goals[stands.pop()]
        for _, later in ways:
            if later not in goals:
                goals[later] = _ways_on(table, alive, later)
                stands.append(later)
    return goals


def _begin(table, stands):
    """Return one of the stands at which a piece can end, and a text that leads there, whose first piece does."""
    rows, labels = table
    stand = [stand for stand in sorted(stands) if _is_begin(table, stand)][0]
    if labels[stand] is not None:
        return stand, first_texts(rows)[stand]
    # a letter is kept here; what leads to stand 0 must be a letter, too, and not the empty text
    return stand, LETTERS[rows[0].index(stand)]


def _endless(table, goals, heights):
    rows, labels = table
    stand, text = _begin(table, [stand for stand in goals if stand not in heights])
    lengths = {}
    while stand not in lengths:
        lengths[stand] = len(text)
        letter, stand = [way for way in goals[stand] if way[1] not in heights][0]
        text += LETTERS[letter]
    past = lengths[stand]
    rests = [rest for later, rest in first_texts(rows, stand).items() if labels[later] is not None]
    return Endless(text[:past], text[past:], rests[0])


def _are_heights(table, heights, number):
    stands = range(len(table[0]))
    if not isinstance(heights, dict):
        return False
    for stand, height in heights.items():
        if not is_between(stand, 0, len(stands) - 1) or not is_between(height, 0, number - 1):
            return False
    alive = alive_stands(table)
    if not all([stand in heights for stand in stands if alive[stand] and _is_begin(table, stand)]):
        return False
    for stand, height in heights.items():
        if not all([heights.get(later, height) < height for _, later in _ways_on(table, alive, stand)]):
            return False
    return True


def _is_unsure(table, text, piece):
    if not is_text(table_size(table), text) or not is_tuple_of(piece, 3):
        return False
    kind, first, past = piece
    if not (kind is None or is_integer(kind)) or not is_integer(first) or not is_integer(past):
        return False
    found = pieces_of(table, text)
    return piece in found and sure_behind(table, text, found, found.index(piece)) is None


def _is_endless(table, ahead, ring, rest):
    rows, labels = table
    stand = stand_after(rows, 0, letter_numbers(ahead))
    if stand_after(rows, stand, letter_numbers(ring)) != stand:
        return False
    if labels[stand_after(rows, stand, letter_numbers(rest))] is None:
        return False
    _, _, past = pieces_of(table, ahead)[0]
    return _has_no_label(table, ahead + ring, past)


def _has_no_label(table, text, past):
    """Return whether no letter of a text behind a place leads to a stand with a label."""
    rows, labels = table
    stand = 0
    for place, letter in enumerate(letter_numbers(text)):
        stand = rows[stand][letter]
        if place >= past and labels[stand] is not None:
            return False
    return True
