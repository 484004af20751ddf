"""Cuts: texts behind which there is a border, wherever they are."""

from patternways.checks import check_text, table_size
from patternways.kinds import bits, copied_list, is_text, letter_numbers
from patternways.machines import explored, first_texts
from patternways.rules import table_of_rules
from patternways.spots import is_spot_like, spots_and_moves

MOST_LOTS = 200


class Lots:
    """The lots of a table of rules, as masks of spots."""

    def __init__(self, table):
        self.size = table_size(table)
        self.spots, self.moves = spots_and_moves(table)
        self.inner = sum([1 << number for number, spot in enumerate(self.spots) if spot[0] is not None])
        self.known = {}

    def whole(self):
        """Return the lot of the empty text: all spots."""
        return (1 << len(self.spots)) - 1

    def step(self, lot, letter):
        """Return the spots to which a letter leads from those of a lot."""
        if (lot, letter) not in self.known:
            later = 0
            for number in bits(lot):
                later |= self.moves[number][letter]
            self.known[(lot, letter)] = later
        return self.known[(lot, letter)]

    def is_border(self, lot):
        """Return whether all spots of a lot are at borders."""
        return lot & self.inner == 0

    def all_lots(self):
        """Return the lots of all texts, and the rows of where letters lead; more than 200 are TooLarge."""
        return explored(self.whole(), lambda lot, letter: self.step(lot, letter), self.size, MOST_LOTS)


class Cut:
    """The first cut of rules."""

    def __init__(self, word):
        self.word = word

    def __eq__(self, other):
        return isinstance(other, Cut) and self.word == other.word

    def shows(self, rules):
        """Return whether this is as described for the rules."""
        _, word = _judged(rules)
        return is_text(rules[0], self.word) and self.word == word


class NoCut:
    """Lots that show that there is no cut."""

    def __init__(self, lots):
        self.lots = [copied_list(lot) for lot in lots]

    def __eq__(self, other):
        return isinstance(other, NoCut) and self.lots == other.lots

    def shows(self, rules):
        """Return whether this is as described for the rules."""
        net, _ = _judged(rules)
        numbers = {spot: number for number, spot in enumerate(net.spots)}
        known = {}
        for lot in self.lots:
            if not all([is_spot_like(spot) and spot in numbers for spot in lot]):
                return False
            known[_mask([numbers[spot] for spot in lot])] = True
        if net.whole() not in known or any([net.is_border(lot) for lot in known]):
            return False
        return all([net.step(lot, letter) in known for lot in known for letter in range(net.size)])


def judge_cut(rules):
    """Return a Cut or a NoCut."""
    net, word = _judged(rules)
    if word is not None:
        return Cut(word)
    found, _ = net.all_lots()
    return NoCut([[net.spots[number] for number in bits(lot)] for lot in found])


def first_cut(rules):
    """Return the first cut, None if there is none."""
    _, word = _judged(rules)
    return word


def is_cut(rules, text):
    """Return whether a text is a cut."""
    table = table_of_rules(rules)
    check_text(rules[0], text)
    net = Lots(table)
    lot = net.whole()
    for letter in letter_numbers(text):
        lot = net.step(lot, letter)
    return net.is_border(lot)


def _judged(rules):
    """Return the lots of rules and the first cut, or None."""
    net = Lots(table_of_rules(rules))
    # all lots are counted, also those behind the first cut
    found, rows = net.all_lots()
    for number, text in first_texts(rows).items():
        if net.is_border(found[number]):
            return net, text
    return net, None


def _mask(numbers):
    mask = 0
    for number in numbers:
        mask |= 1 << number
    return mask
