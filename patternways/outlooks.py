"""Outlooks, and texts read with them, for tables of rules."""

from patternways.kinds import letter_numbers
from patternways.machines import leading_to


class Outlooks:
    """The outlooks for a table of rules: each one is worked out once from that of a text with one letter less."""

    def __init__(self, table):
        self.table = table
        self.nothing = tuple([None] * len(table[0]))
        self.known = {}

    def grown(self, later, letter):
        """Return the outlook of a text that is a letter and what has the later outlook."""
        if (later, letter) not in self.known:
            self.known[(later, letter)] = self._worked_out(later, letter)
        return self.known[(later, letter)]

    def _worked_out(self, later, letter):
        rows, labels = self.table
        targets = [row[letter] for row in rows]
        return tuple([labels[target] if later[target] is None else later[target] for target in targets])

    def along(self, letters):
        """Return the outlooks of what is behind each place of a text, from place 0 on."""
        found = [self.nothing]
        for letter in reversed(letters):
            found.append(self.grown(found[-1], letter))
        found.reverse()
        return found


def stand_behind(table, stand, outlook, letter, later):
    """Return the stand of the spot behind a letter, None at a border.

    The spot ahead of the letter has the stand and the outlook; what is behind the letter has the later outlook.
    """
    if stand is None and outlook[0] is None:
        return None
    target = table[0][0 if stand is None else stand][letter]
    return None if later[target] is None else target


def spots_along(table, text):
    """Return the spots of all places of a text, from place 0 on."""
    letters = letter_numbers(text)
    views = Outlooks(table).along(letters)
    found = [(None, views[0])]
    stand = None
    for place, letter in enumerate(letters):
        stand = stand_behind(table, stand, views[place], letter, views[place + 1])
        found.append((stand, views[place + 1]))
    return found


def kind_at(stand, view):
    """Return the kind of the piece that goes on, or begins, at a spot."""
    return view[0 if stand is None else stand]


def pieces_of(table, text):
    """Return the list of the pieces of a text."""
    spots = spots_along(table, text)
    found = []
    first = 0
    for past in range(1, len(spots)):
        if spots[past][0] is None:
            # the first item of the outlook at the beginning of a piece is its kind
            found.append((spots[first][1][0], first, past))
            first = past
    return found


def alive_stands(table):
    """Return for each stand whether by one or more letters a stand with a label is come to from it."""
    rows, labels = table
    return leading_to(rows, [label is not None for label in labels])


def sure_behind(table, text, pieces, number):
    """Return behind how many letters of a text a piece is sure, None if behind none of them.

    A piece is not sure as long as it, or one ahead of it, might still go on: so the stands to which the letters
    from the beginning of each of these pieces lead are kept, as long as they are alive.
    """
    rows, _ = table
    alive = alive_stands(table)
    firsts = {first: True for _, first, _ in pieces[:number + 1]}
    going = {}
    for place, letter in enumerate(letter_numbers(text)):
        if place >= pieces[number][2] and not going:
            return place
        if place in firsts:
            going[0] = True
        going = {rows[stand][letter]: True for stand in going if alive[rows[stand][letter]]}
    return None if going else len(text)
