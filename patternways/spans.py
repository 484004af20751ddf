"""Patterns that are alike in groups: texts have ways of both, and the first ones give each group the same."""

from patternways.checks import check_pattern, check_size
from patternways.errors import Unequal
from patternways.frames import Frames
from patternways.kinds import copied_list, is_text, letter_numbers
from patternways.machines import explored, first_texts, stand_after
from patternways.walks import first_marks, first_stops, given, letters_taken

MOST_STANDINGS = 300
# the place behind a letter, until it gets its number: no standing has this one
NEW_PLACE = "new"


class Twin:
    """Texts that show that two patterns are alike in groups."""

    def __init__(self, texts):
        self.texts = copied_list(texts)

    def __eq__(self, other):
        return isinstance(other, Twin) and self.texts == other.texts

    def shows(self, size, one, other):
        """Return whether this is as described for two patterns of a size."""
        found, rows = _compared(size, one, other)
        if not isinstance(self.texts, list) or not all([is_text(size, text) for text in self.texts]):
            return False
        # with the first one, and all to which letters lead, texts have all standings
        known = {stand_after(rows, 0, letter_numbers(text)): True for text in self.texts}
        return "" in self.texts and len(known) == len(found) and not any([_clashes(two) for two in found])


class Unlike:
    """A text with a way of just one of two patterns, or with first ways that do not give each group the same."""

    def __init__(self, text):
        self.text = text

    def __eq__(self, other):
        return isinstance(other, Unlike) and self.text == other.text

    def shows(self, size, one, other):
        """Return whether this is as described for two patterns of a size."""
        found, rows = _compared(size, one, other)
        return is_text(size, self.text) and _clashes(found[stand_after(rows, 0, letter_numbers(self.text))])


def compare_groups(size, one, other):
    """Return a Twin or an Unlike for two patterns of a size."""
    found, rows = _compared(size, one, other)
    texts = first_texts(rows)
    for stand, text in texts.items():
        if _clashes(found[stand]):
            return Unlike(text)
    return Twin([texts[stand] for stand in texts])


def _compared(size, one, other):
    """Return all standings of two patterns, and for each of them to which letters lead."""
    check_size(size)
    check_pattern(size, one)
    check_pattern(size, other)
    both = [Frames(size, one), Frames(size, other)]
    if both[0].groups != both[1].groups:
        raise Unequal("the patterns have not as many groups")
    starts = [first_stops(frames, [(frames.first, first_marks(frames))], NEW_PLACE) for frames in both]
    return explored(_named(starts), lambda two, letter: _stepped(both, two, letter), size, MOST_STANDINGS)


def _stepped(both, two, letter):
    return _named([first_stops(frames, letters_taken(frames, stops, letter), NEW_PLACE)
                   for frames, stops in zip(both, two)])


def _named(two):
    """Return a standing: two lists of stops, in which places get the numbers of a standing."""
    numbers = {NEW_PLACE: 0}
    return tuple([tuple([(sort, tuple([_named_mark(numbers, mark) for mark in marks])) for sort, marks in stops])
                  for stops in two])


def _named_mark(numbers, mark):
    begun, pair = mark
    place = _number(numbers, begun)
    return place, None if pair is None else (_number(numbers, pair[0]), _number(numbers, pair[1]))


def _number(numbers, place):
    return None if place is None else numbers.setdefault(place, len(numbers))


def _clashes(two):
    """Return whether just one of two patterns has a way at a standing, or the first ones give groups something else."""
    one, other = [[given(marks) for sort, marks in stops if sort == ()] for stops in two]
    return one != other
