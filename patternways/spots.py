"""Spots of tables of rules, and where letters lead from them."""

from patternways.checks import table_size
from patternways.errors import TooLarge
from patternways.machines import explored
from patternways.outlooks import Outlooks, stand_behind

MOST_SPOTS = 200


def spots_and_moves(table):
    """Return the list of all spots, and for each of them a list with, for each letter, a mask of those led to.

    Bit k of a mask is spot k. If there are more than 200 spots, the error is TooLarge.
    """
    size = table_size(table)
    outlooks, rows = _all_outlooks(table)
    ways = _ways_on(outlooks, rows)
    found = [(None, view) for view in outlooks]
    numbers = {spot: number for number, spot in enumerate(found)}
    moves = []
    while len(moves) < len(found):
        stand, view = found[len(moves)]
        masks = [0] * size
        for letter, later in ways[view]:
            spot = (stand_behind(table, stand, view, letter, later), later)
            if spot not in numbers:
                numbers[spot] = len(found)
                found.append(spot)
            masks[letter] |= 1 << numbers[spot]
        if len(found) > MOST_SPOTS:
            raise TooLarge("there are more than 200 spots")
        moves.append(masks)
    return found, moves


def _all_outlooks(table):
    # each outlook is that of some text, at whose beginning there is a spot: so they are no more than the spots
    views = Outlooks(table)
    return explored(views.nothing, lambda later, letter: views.grown(later, letter), table_size(table), MOST_SPOTS)


def _ways_on(outlooks, rows):
    """Return for each outlook the pairs of a letter and an outlook of what can be behind that letter."""
    ways = {view: [] for view in outlooks}
    for later, row in zip(outlooks, rows):
        for letter, number in enumerate(row):
            ways[outlooks[number]].append((letter, later))
    return ways
