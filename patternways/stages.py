"""Rows of rules as stages: prospects, as numbers, and what letters make of standings."""

from patternways.checks import check_is_row, check_text
from patternways.kinds import LETTERS, letter_numbers
from patternways.outlooks import Outlooks, kind_at, spots_along, stand_behind
from patternways.puts import put_along, put_by
from patternways.rules import table_of_rules


class Stage:
    """The first rules of a row, with the stage of the rules behind them, or None.

    Each of the prospects of texts has a number, by the order in which it is met: found has, for each of them, a pair
    of the outlook, and of a tuple of the numbers of the prospects for the later stage.
    """

    def __init__(self, rules, later):
        self.rules = rules
        self.size = rules[0]
        self.table = table_of_rules(rules)
        self.later = later
        self.views = Outlooks(self.table)
        self.found = []
        self.numbers = {}
        self.longer = {}
        self.steps = {}
        view = self.views.nothing
        self.nothing = self._number_of(view, () if later is None else tuple([later.nothing] + [None] * len(view)))

    def grown(self, number, letter):
        """Return the number of the prospects of a letter, with a text of numbered prospects behind it."""
        if (number, letter) not in self.longer:
            view = self.views.grown(self.found[number][0], letter)
            self.longer[(number, letter)] = self._number_of(view, self._items(view, letter, number))
        return self.longer[(number, letter)]

    def grown_by(self, number, text):
        """Return the numbers of the prospects behind each place of a text, with numbered ones behind all of it."""
        found = [number]
        for letter in reversed(letter_numbers(text)):
            found.append(self.grown(found[-1], letter))
        found.reverse()
        return found

    def stepped(self, standing, letter, number):
        """Return the standing behind a letter, and what comes by it, if what is behind has the numbered prospects."""
        key = (standing, letter, number)
        if key not in self.steps:
            self.steps[key] = self._step(standing, letter, number)
        return self.steps[key]

    def spelled(self, number):
        """Return the numbered prospects."""
        view, items = self.found[number]
        return view, tuple([None if item is None else self.later.spelled(item) for item in items])

    def _number_of(self, view, items):
        if (view, items) not in self.numbers:
            self.numbers[(view, items)] = len(self.found)
            self.found.append((view, items))
        return self.numbers[(view, items)]

    def _items(self, view, letter, number):
        if self.later is None:
            return ()
        return tuple([self._item(stand, view, letter, number) for stand in [None] + list(range(len(view)))])

    def _item(self, stand, view, letter, number):
        if stand is not None and view[stand] is None:
            return None
        behind, put = self._by_letter(stand, view, letter, number)
        return self.later.grown_by(self._item_of(number, behind), put)[0]

    def _item_of(self, number, stand):
        """Return the number of the prospects, at the later stage, of what comes if one reads on from a stand."""
        return self.found[number][1][0 if stand is None else stand + 1]

    def _by_letter(self, stand, view, letter, number):
        """Return the stand behind a letter, None at a border, and what comes by the letter at this stage."""
        behind = stand_behind(self.table, stand, view, letter, self.found[number][0])
        put = put_by(self.rules, kind_at(stand, view), LETTERS[letter], stand is None, behind is None)
        return behind, put

    def _step(self, standing, letter, number):
        view = self.views.grown(self.found[number][0], letter)
        behind, put = self._by_letter(standing[0], view, letter, number)
        if self.later is None:
            return (behind,), put
        # what comes at this stage is read at the later one, letter by letter
        numbers = self.later.grown_by(self._item_of(number, behind), put)
        rest = standing[1:]
        parts = []
        for place, later in enumerate(letter_numbers(put)):
            rest, part = self.later.stepped(rest, later, numbers[place + 1])
            parts.append(part)
        return (behind, *rest), "".join(parts)


def stage_of(row):
    """Return the stage of a row."""
    stage = None
    for rules in reversed(row):
        stage = Stage(rules, stage)
    return stage


def change_of(row, tables, text):
    """Return the change of a text by a row with these tables."""
    for rules, table in zip(row, tables):
        text = "".join(put_along(rules, table, text))
    return text


def has_two_changes(one, other, text):
    """Return whether a text has not the same change by two rows."""
    return change_of(one, tables_for(one, text), text) != change_of(other, tables_for(other, text), text)


def standing_at(row, tables, text, place):
    """Return the standing at a place of a text, and what has come there."""
    stands = []
    for rules, table in zip(row, tables):
        stand, _ = spots_along(table, text)[place]
        parts = put_along(rules, table, text)
        stands.append(stand)
        text = "".join(parts)
        place = len("".join(parts[:place]))
    return tuple(stands), text[:place]


def tables_for(row, text):
    """Return the tables of a row; BadRow, TooLarge of the tables alone, then BadText of a text."""
    check_is_row(row)
    tables = [table_of_rules(rules) for rules in row]
    check_text(row[0][0], text)
    return tables
