"""Rows of rules that are alike: each text has the same change by both."""

from patternways.courses import Course, are_pairs_of, is_standing
from patternways.kinds import copied, copied_list, is_text
from patternways.rests import rests_of_two
from patternways.stages import has_two_changes

MOST_TRIPLES = 600


class Match:
    """Rests, and how far one of two rows is ahead of the other, that show that two rows are alike."""

    def __init__(self, rests, ahead):
        self.rests = copied_list(rests)
        self.ahead = copied(ahead)

    def __eq__(self, other):
        return isinstance(other, Match) and self.rests == other.rests and self.ahead == other.ahead

    def shows(self, one, other):
        """Return whether this is as described for two rows."""
        course = _course(one, other)
        numbers = course.rests.numbers_of(self.rests)
        if course.clash or numbers is None:
            return False
        return are_pairs_of(self.ahead, course.pairs, numbers, is_standing)


class Differ:
    """A text with two different changes by two rows."""

    def __init__(self, text):
        self.text = text

    def __eq__(self, other):
        return isinstance(other, Differ) and self.text == other.text

    def shows(self, one, other):
        """Return whether this is as described for two rows."""
        course = _course(one, other)
        return is_text(course.rests.size, self.text) and has_two_changes(one, other, self.text)


def compare(one, other):
    """Return a Match or a Differ for two rows."""
    course = _course(one, other)
    if not course.clash:
        return Match(course.rests.texts, course.pairs)
    return Differ([text for text in course.clash if has_two_changes(one, other, text)][0])


def are_alike(one, other):
    """Return whether each text has the same change by two rows."""
    return not _course(one, other).clash


def _course(one, other):
    rests = rests_of_two(one, other)
    return Course(rests, (rests.start(0), rests.start(1)),
                  lambda standing, letter, rest: rests.stepped(0, standing, letter, rest),
                  lambda second, letter, rest: rests.stepped(1, second, letter, rest), MOST_TRIPLES)
