"""Rests: a text for each of the prospects that texts have for one row, or for two."""

from patternways.checks import check_is_row
from patternways.errors import Unequal
from patternways.kinds import is_text, letter_numbers
from patternways.machines import explored_ahead, ways_behind
from patternways.stages import stage_of

MOST_RESTS = 40


class Rests:
    """Rests for rows, one or two, numbered in the order of texts: the empty text is number 0.

    texts is the list of the rests; rows has for each rest the numbers of the rests with the same prospects as it has
    with the letters ahead; ways has for each rest the list of the pairs of a letter and of a rest such that the rest
    with the letter ahead has its prospects. If there are more than 40 rests, the error is TooLarge.
    """

    def __init__(self, rows):
        self.stages = [stage_of(row) for row in rows]
        self.size = rows[0][0][0]
        start = tuple([stage.nothing for stage in self.stages])
        self.found, self.rows, self.texts = explored_ahead(start, self._grown, self.size, MOST_RESTS)
        self.ways = ways_behind(self.rows)

    def _grown(self, numbers, letter):
        return tuple([stage.grown(number, letter) for stage, number in zip(self.stages, numbers)])

    def number_of(self, text):
        """Return the number of the rest that has the prospects of a text."""
        number = 0
        for letter in reversed(letter_numbers(text)):
            number = self.rows[number][letter]
        return number

    def numbers_of(self, texts):
        """Return the numbers of the rests that have the prospects of texts, if the texts are rests, too; or None."""
        if not isinstance(texts, list) or not all([is_text(self.size, text) for text in texts]) or "" not in texts:
            return None
        numbers = [self.number_of(text) for text in texts]
        return numbers if sorted(numbers) == list(range(len(self.texts))) else None

    def stepped(self, side, standing, letter, rest):
        """Return the standing of a row behind a letter with a rest behind it, and what comes by the letter."""
        return self.stages[side].stepped(standing, letter, self.found[rest][side])

    def start(self, side):
        """Return the standing of a row at the beginning of texts."""
        stage = self.stages[side]
        standing = ()
        while stage is not None:
            standing = (*standing, None)
            stage = stage.later
        return standing


def rests_of_row(row):
    """Return the rests of a row; BadRow, then TooLarge."""
    check_is_row(row)
    return Rests([row])


def rests_of_two(one, other):
    """Return the rests of two rows; BadRow, for the one, then for the other, then Unequal, then TooLarge."""
    check_is_row(one)
    check_is_row(other)
    if one[0][0] != other[0][0]:
        raise Unequal("the rows are not of one size")
    return Rests([one, other])
