"""Tables of rules: the label of each text."""

from patternways.checks import MOST_STANDS, check_rules
from patternways.errors import TooLarge
from patternways.machines import explored, least_of
from patternways.positions import Positions, spread


def table_of_rules(rules):
    """Return the table of rules: the least rows and labels by which each text leads to its label."""
    check_rules(rules)
    size, items = rules
    net = Positions(size)
    lasts = []
    for pattern, _ in items:
        _, first, last = spread(net, pattern)
        net.link(1, first)
        lasts.append(last)
    masks, rows = explored(1, lambda places, letter: net.step(places, letter), size)
    # the empty text alone leads to bit 0, which is no last place: so it has no label
    rows, labels = least_of(rows, [_label(lasts, mask) for mask in masks])
    if len(rows) > MOST_STANDS:
        raise TooLarge("the table of the rules has more than 40 stands")
    return rows, labels


def _label(lasts, mask):
    for number, last in enumerate(lasts):
        if mask & last != 0:
            return number
    return None
