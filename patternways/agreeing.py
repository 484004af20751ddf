"""From where on texts with the same end have the same pieces."""

from patternways.kinds import LETTERS, copied, is_between, is_integer, is_text, is_tuple_of
from patternways.machines import heights_of, texts_behind
from patternways.outlooks import spots_along
from patternways.rules import table_of_rules
from patternways.spots import Spots, is_spot_like


class Agree:
    """The agreement of rules: heights show that no more is needed, three texts that no less is enough."""

    def __init__(self, number, one, other, rest, heights):
        self.number = number
        self.one = one
        self.other = other
        self.rest = rest
        self.heights = copied(heights)

    def __eq__(self, other):
        return (isinstance(other, Agree) and self.number == other.number and self.one == other.one
                and self.other == other.other and self.rest == other.rest and self.heights == other.heights)

    def shows(self, rules):
        """Return whether this is as described for the rules."""
        net = Spots(table_of_rules(rules))
        texts = [self.one, self.other, self.rest]
        if not is_integer(self.number) or not all([is_text(net.size, text) for text in texts]):
            return False
        if not _are_heights(net, self.heights, self.number):
            return False
        borders = _both_at_borders(_spots_in_rest(net, self.one, self.rest), _spots_in_rest(net, self.other, self.rest))
        return borders.index(True) == self.number


class Astray:
    """Texts that show that there is no agreement: two that agree as late as one likes, if a ring comes more often."""

    def __init__(self, one, other, ring, rest):
        self.one = one
        self.other = other
        self.ring = ring
        self.rest = rest

    def __eq__(self, other):
        return (isinstance(other, Astray) and self.one == other.one and self.other == other.other
                and self.ring == other.ring and self.rest == other.rest)

    def shows(self, rules):
        """Return whether this is as described for the rules."""
        net = Spots(table_of_rules(rules))
        texts = [self.one, self.other, self.ring, self.rest]
        if not all([is_text(net.size, text) for text in texts]) or self.ring == "":
            return False
        past = len(self.ring)
        first = _spots_in_rest(net, self.one, self.ring + self.rest)
        second = _spots_in_rest(net, self.other, self.ring + self.rest)
        if first[0] != first[past] or second[0] != second[past]:
            return False
        return not any(_both_at_borders(first, second)[:past + 1])


def judge_agreement(rules):
    """Return an Agree or an Astray."""
    net = Spots(table_of_rules(rules))
    goals = _goals(net)
    heights = heights_of(goals)
    if len(heights) < len(goals):
        return _astray(net, goals, heights)
    if not heights:
        return Agree(0, "", "", "", {})
    number = max(heights.values()) + 1
    triple = [triple for triple in goals if heights[triple] == number - 1][0]
    one, other = _texts_ahead(net, triple)
    rest = ""
    while heights[triple] > 0:
        height = heights[triple]
        letter, triple = [way for way in goals[triple] if heights[way[1]] == height - 1][0]
        rest += LETTERS[letter]
    # by one letter more, both are at a border
    letter, later = net.ways[triple[2]][0]
    rest += LETTERS[letter] + net.texts[later]
    return Agree(number, one, other, rest, {triple: height + 1 for triple, height in heights.items()})


def agreement(rules):
    """Return the agreement of rules, None if there is none."""
    found = judge_agreement(rules)
    return found.number if isinstance(found, Agree) else None


def _goals(net):
    """Return a dict from the triples of two spots, not both at a border, to their ways on to such triples."""
    stands = {}
    for stand, view in net.found:
        stands.setdefault(view, []).append(stand)
    triples = [(one, other, view) for view in stands for one in stands[view] for other in stands[view]]
    return {triple: _ways_on(net, triple) for triple in triples if _is_apart(triple)}


def _ways_on(net, triple):
    one, other, view = triple
    ways = [(letter, (net.behind(one, view, letter, later), net.behind(other, view, letter, later), later))
            for letter, later in net.ways[view]]
    return [way for way in ways if _is_apart(way[1])]


def _is_apart(triple):
    return triple[0] is not None or triple[1] is not None


def _texts_ahead(net, triple):
    """Return two texts that lead to the stands of a triple, empty ones to a border."""
    texts = texts_behind(net.table[0])
    return ["" if stand is None else texts[stand] for stand in triple[:2]]


def _astray(net, goals, heights):
    triple = [triple for triple in goals if triple not in heights][0]
    lengths = {}
    letters = ""
    while triple not in lengths:
        lengths[triple] = len(letters)
        letter, triple = [way for way in goals[triple] if way[1] not in heights][0]
        letters += LETTERS[letter]
    one, other = _texts_ahead(net, triple)
    return Astray(one, other, letters[lengths[triple]:], net.texts[triple[2]])


def _spots_in_rest(net, text, rest):
    """Return the spots of the places of a rest, with a text ahead of it."""
    return spots_along(net.table, text + rest)[len(text):]


def _both_at_borders(some, others):
    return [one[0] is None and other[0] is None for one, other in zip(some, others)]


def _are_heights(net, heights, number):
    if not isinstance(heights, dict):
        return False
    if not all([_is_triple(net, triple) and is_between(heights[triple], 1, number) for triple in heights]):
        return False
    goals = _goals(net)
    if not all([triple in heights for triple in goals]):
        return False
    # letters lead from spots alone: so from a triple without two spots they lead nowhere
    for triple, ways in goals.items():
        if not all([heights[later] < heights[triple] for _, later in ways]):
            return False
    return True


def _is_triple(net, value):
    """Return whether something is a triple of two stands or None, not both None, and an outlook."""
    if not is_tuple_of(value, 3) or not is_spot_like(value[1:]) or not _is_apart(value):
        return False
    stands = len(net.table[0])
    return value[2] in net.texts and all([stand is None or is_between(stand, 0, stands - 1) for stand in value[:2]])
