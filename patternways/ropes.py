"""Ropes: texts that are edited letter by letter, with products of their stretches for a table."""

from patternways.checks import check_table, check_text, table_size
from patternways.errors import BadPlace, BadStand, BadText
from patternways.kinds import is_between, is_text
from patternways.trees import Maker, length_of, stand_led_to, text_of


class Rope:
    """A text for a table, in a tree of its letters; trees are never changed, so that branches can share them."""

    def __init__(self, table, text=""):
        check_table(table)
        check_text(table_size(table), text)
        self._table = table
        self._maker = Maker(table[0], 0)
        self._tree = self._maker.of_text(text)

    @property
    def kept(self):
        """The text."""
        return text_of(self._tree)

    @property
    def work(self):
        """How many products of stretches were made so far."""
        return self._maker.made

    def put(self, place, letter):
        """Put a letter at a place."""
        if not is_between(place, 0, length_of(self._tree)):
            raise BadPlace("this is no place of the text")
        if not is_text(table_size(self._table), letter) or len(letter) != 1:
            raise BadText("this is not one letter of the size")
        self._tree = self._maker.with_letter(self._tree, place, letter)

    def take(self, place):
        """Take the letter at a place out."""
        if not is_between(place, 0, length_of(self._tree) - 1):
            raise BadPlace("this is no place of a letter")
        self._tree = self._maker.without_letter(self._tree, place)

    def is_word(self):
        """Return whether the text is a word of the table."""
        rows, ends = self._table
        return ends[stand_led_to(rows, self._tree, 0, length_of(self._tree), 0)]

    def stand(self, first, past, begin=0):
        """Return the stand to which the letters from a place on, ahead of another one, lead from a stand."""
        length = length_of(self._tree)
        if not is_between(first, 0, length) or not is_between(past, first, length):
            raise BadPlace("these are no two places of the text, one behind the other")
        rows, _ = self._table
        if not is_between(begin, 0, len(rows) - 1):
            raise BadStand("this is no stand of the table")
        return stand_led_to(rows, self._tree, first, past, begin)

    def branch(self):
        """Return an independent rope in which everything is the same."""
        other = Rope(self._table)
        other._maker = Maker(self._table[0], self._maker.made)
        other._tree = self._tree
        return other
