"""Pieces side by side: kinds that are free ahead of others, and pieces that come back."""

from patternways.errors import BadKind, BadPieces
from patternways.kinds import LETTERS, copied_list, is_between, is_text, is_tuple_of
from patternways.machines import text_by
from patternways.outlooks import kind_at, pieces_of
from patternways.rules import table_of_rules
from patternways.spots import Spots, is_spot_like


class Free:
    """Triples that show that a kind is free ahead of another one."""

    def __init__(self, rows):
        self.rows = copied_list(rows)

    def __eq__(self, other):
        return isinstance(other, Free) and self.rows == other.rows

    def shows(self, rules, kind, late):
        """Return whether this is as described for the rules and two kinds."""
        net = _net_for(rules, kind, late)
        if not all([_is_triple(net, row) for row in self.rows]):
            return False
        known = {row: True for row in self.rows}
        if not all([start in known for start in _starts(net)]):
            return False
        spots = {spot: True for spot in net.found}
        # only from spots can one go on
        rows = [row for row in known if (row[0], row[2]) in spots]
        if not all([later in known for row in rows for _, later in _ways_on(net, row)]):
            return False
        return _first_clash(net, _ends(net, rows), kind, late) is None


class Bound:
    """Two texts that show that a kind is not free ahead of another one."""

    def __init__(self, one, other):
        self.one = one
        self.other = other

    def __eq__(self, other):
        return isinstance(other, Bound) and self.one == other.one and self.other == other.other

    def shows(self, rules, kind, late):
        """Return whether this is as described for the rules and two kinds."""
        net = _net_for(rules, kind, late)
        if not all([is_text(net.size, text) and text != "" for text in (self.one, self.other)]):
            return False
        ahead, behind = pieces_of(net.table, self.one), pieces_of(net.table, self.other)
        if ahead[-1][0] != kind or behind[0][0] != late:
            return False
        past = len(self.one)
        parted = ahead + [(number, first + past, last + past) for number, first, last in behind]
        return pieces_of(net.table, self.one + self.other) != parted


def judge_free(rules, kind, late):
    """Return a Free or a Bound."""
    net = _net_for(rules, kind, late)
    found = _reached(net)
    clash = _first_clash(net, _ends(net, list(found)), kind, late)
    if clash is None:
        return Free(list(found))
    triple, letter, text = clash
    return Bound(text_by(found, triple) + LETTERS[letter], text)


def is_free(rules, kind, late):
    """Return whether a kind is free ahead of another one."""
    return isinstance(judge_free(rules, kind, late), Free)


def free_pairs(rules):
    """Return the list of all pairs of kinds of which the first one is free ahead of the second one."""
    net = Spots(table_of_rules(rules))
    ends = _ends(net, list(_reached(net)))
    kinds = [None] + list(range(len(rules[1])))
    return [(kind, late) for kind in kinds for late in kinds if _first_clash(net, ends, kind, late) is None]


def come_back(rules, some):
    """Return whether the text of pieces, one behind the other, is read as just these pieces."""
    table = table_of_rules(rules)
    if not isinstance(some, (list, tuple)):
        raise BadPieces(None)
    texts = []
    pieces = []
    past = 0
    for index, item in enumerate(some):
        if not _is_one_piece(rules, table, item):
            raise BadPieces(index)
        kind, text = item
        texts.append(text)
        pieces.append((kind, past, past + len(text)))
        past += len(text)
    return pieces_of(table, "".join(texts)) == pieces


def _is_kind(rules, value):
    return value is None or is_between(value, 0, len(rules[1]) - 1)


def _is_one_piece(rules, table, item):
    if not is_tuple_of(item, 2) or not _is_kind(rules, item[0]) or not is_text(rules[0], item[1]):
        return False
    return pieces_of(table, item[1]) == [(item[0], 0, len(item[1]))]


def _net_for(rules, kind, late):
    table = table_of_rules(rules)
    if not _is_kind(rules, kind) or not _is_kind(rules, late):
        raise BadKind("a kind is None or the number of a rule")
    return Spots(table)


def _starts(net):
    """Return the triples at borders, from which each text can begin."""
    return [(None, 0, view) for view in net.ways]


def _ways_on(net, triple):
    """Return the pairs of a letter and the triple behind it, for all letters and outlooks with which a spot goes on."""
    stand, other, view = triple
    rows, _ = net.table
    return [(letter, (net.behind(stand, view, letter, later), rows[other][letter], later))
            for letter, later in net.ways[view]]


def _reached(net):
    """Return a dict from all triples that are needed to the triple and the letter ahead of them, None at a start."""
    found = {start: None for start in _starts(net)}
    queue = list(found)
    at = 0
    while at < len(queue):
        triple = queue[at]
        for letter, later in _ways_on(net, triple):
            if later not in found:
                found[later] = (triple, letter)
                queue.append(later)
        at += 1
    return found


def _ends(net, triples):
    """Return, for each piece with which a text can end behind some triple, the kind of the piece, the second stand
    behind it, the triple and the last letter."""
    found = {}
    for triple in triples:
        for letter, later in _ways_on(net, triple):
            if later[2] == net.nothing:
                found.setdefault((kind_at(triple[0], triple[2]), later[1]), (triple, letter))
    return [(kind, stand, triple, letter) for (kind, stand), (triple, letter) in found.items()]


def _first_clash(net, ends, kind, late):
    """Return a triple and a letter, behind which a text with a last piece of a kind ends, and a text whose first piece
    is of the other kind, but by which a piece goes on beyond the end; None if there are none."""
    for last, stand, triple, letter in ends:
        if last == kind:
            for view, text in net.texts.items():
                if text != "" and view[0] == late and view[stand] is not None:
                    return triple, letter, text
    return None


def _is_triple(net, value):
    """Return whether something is a triple of a stand or None, a stand, and an outlook."""
    if not is_tuple_of(value, 3) or not is_spot_like(value[1:]):
        return False
    last = len(net.table[0]) - 1
    if not (value[0] is None or is_between(value[0], 0, last)) or not is_between(value[1], 0, last):
        return False
    return value[2] in net.texts
