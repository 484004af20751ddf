"""Rules at rest: behind which number of times they change nothing more; and two rules in either order."""

from patternways.alike import Differ, Match, compare
from patternways.checks import check_rules
from patternways.errors import Unequal
from patternways.kinds import copied_list, is_integer, is_text
from patternways.stages import has_two_changes

TRIES = 3


class Settled:
    """The least number behind which rules are at rest, with a Match for it and a text for each lesser number."""

    def __init__(self, number, match, texts):
        self.number = number
        self.match = Match(match.rests, match.ahead) if isinstance(match, Match) else match
        self.texts = copied_list(texts)

    def __eq__(self, other):
        return (isinstance(other, Settled) and self.number == other.number and self.match == other.match
                and self.texts == other.texts)

    def shows(self, rules):
        """Return whether this is as described for the rules."""
        found = _tried(rules)
        if not is_integer(self.number) or not isinstance(found[-1], Match) or self.number != len(found) - 1:
            return False
        if not isinstance(self.match, Match) or not _are_unsettled(rules, self.texts, self.number):
            return False
        one, other = _rows(rules, self.number)
        return self.match.shows(one, other)


class Restless:
    """A text for each number that shows that rules are not at rest behind it."""

    def __init__(self, texts):
        self.texts = copied_list(texts)

    def __eq__(self, other):
        return isinstance(other, Restless) and self.texts == other.texts

    def shows(self, rules):
        """Return whether this is as described for the rules."""
        _tried(rules)
        return _are_unsettled(rules, self.texts, TRIES)


def settle(rules):
    """Return a Settled or a Restless."""
    found = _tried(rules)
    texts = [item.text for item in found if isinstance(item, Differ)]
    if isinstance(found[-1], Match):
        return Settled(len(texts), found[-1], texts)
    return Restless(texts)


def exchange(one, other):
    """Return the Match or Differ of two rules one behind the other, in either order."""
    check_rules(one)
    check_rules(other)
    if one[0] != other[0]:
        raise Unequal("the rules are not of one size")
    return compare((one, other), (other, one))


def _rows(rules, number):
    """Return the rows of rules as often as a number says, and once more."""
    if number == 0:
        return ((rules[0], ((("none",), ("word", "")),)),), (rules,)
    return (rules,) * number, (rules,) * (number + 1)


def _tried(rules):
    """Return what comes of comparing the rows for each number, up to the first one behind which rules are at rest."""
    check_rules(rules)
    found = []
    while len(found) < TRIES and not (found and isinstance(found[-1], Match)):
        one, other = _rows(rules, len(found))
        found.append(compare(one, other))
    return found


def _are_unsettled(rules, texts, many):
    """Return whether there are so many texts, each of which has two changes by the rows for its number."""
    if not isinstance(texts, list) or len(texts) != many or not all([is_text(rules[0], text) for text in texts]):
        return False
    for number, text in enumerate(texts):
        one, other = _rows(rules, number)
        if not has_two_changes(one, other, text):
            return False
    return True
