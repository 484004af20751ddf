"""Spots of tables of rules, and where letters lead from them."""

from patternways.checks import table_size
from patternways.errors import TooLarge
from patternways.kinds import is_integer, is_tuple_of
from patternways.machines import explored_ahead, ways_behind
from patternways.outlooks import Outlooks, stand_behind

MOST_SPOTS = 200


class Spots:
    """All spots of a table of rules, and all outlooks; if there are more than 200 spots, the error is TooLarge.

    found is a list of the spots; texts is a dict from the outlooks to the first texts that have them; ways is a dict
    from them to lists of pairs of a letter and of the outlook of what can be behind that letter.
    """

    def __init__(self, table):
        self.table = table
        self.size = table_size(table)
        views = Outlooks(table)
        self.nothing = views.nothing
        # at the beginning of each text there is a spot: so there are no more outlooks than spots
        outlooks, rows, texts = explored_ahead(views.nothing, views.grown, self.size, MOST_SPOTS)
        self.texts = {view: texts[number] for number, view in enumerate(outlooks)}
        ways = ways_behind(rows)
        self.ways = {view: [(letter, outlooks[later]) for letter, later in ways[number]]
                     for number, view in enumerate(outlooks)}
        self.found = self._all_spots()

    def behind(self, stand, view, letter, later):
        """Return the stand, or None, of the spot to which a letter leads from the spot of a stand and an outlook."""
        return stand_behind(self.table, stand, view, letter, later)

    def _all_spots(self):
        found = [(None, view) for view in self.ways]
        known = {spot: True for spot in found}
        at = 0
        while at < len(found):
            stand, view = found[at]
            for letter, later in self.ways[view]:
                spot = (self.behind(stand, view, letter, later), later)
                if spot not in known:
                    known[spot] = True
                    found.append(spot)
            if len(found) > MOST_SPOTS:
                raise TooLarge("there are more than 200 spots")
            at += 1
        return found


def spots_and_moves(table):
    """Return the list of all spots, and for each of them a list with, for each letter, a mask of those led to.

    Bit k of a mask is spot k. If there are more than 200 spots, the error is TooLarge.
    """
    net = Spots(table)
    numbers = {spot: number for number, spot in enumerate(net.found)}
    moves = []
    for stand, view in net.found:
        masks = [0] * net.size
        for letter, later in net.ways[view]:
            masks[letter] |= 1 << numbers[(net.behind(stand, view, letter, later), later)]
        moves.append(masks)
    return net.found, moves


def is_spot_like(value):
    """Return whether something has the form of a spot."""
    if not is_tuple_of(value, 2) or not isinstance(value[1], tuple):
        return False
    return all([item is None or is_integer(item) for item in (value[0], *value[1])])
