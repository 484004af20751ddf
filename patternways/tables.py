"""Tables of words: of patterns, alike or within one another, and of what two of them have."""

from patternways.checks import MOST_STANDS, check_pattern, check_size, check_table, check_text, table_size
from patternways.errors import TooLarge, Unequal
from patternways.kinds import copied_list, is_between, is_text, is_tuple_of, letter_numbers
from patternways.machines import explored, first_texts, least_of, stand_after
from patternways.positions import Positions, spread


def table_of(size, pattern):
    """Return the table of a pattern: the least one of its words."""
    check_size(size)
    check_pattern(size, pattern)
    net = Positions(size)
    has_empty, first, last = spread(net, pattern)
    net.link(1, first)
    ends = last | 1 if has_empty else last
    masks, rows = explored(1, lambda places, letter: net.step(places, letter), size)
    return _limited(least_of(rows, [mask & ends != 0 for mask in masks]))


def is_word(table, text):
    """Return whether a text is a word of a table."""
    check_table(table)
    check_text(table_size(table), text)
    return _has(table, text)


def least(table):
    """Return the least table with the same words."""
    check_table(table)
    rows, ends = table
    return least_of(rows, ends)


def _has(table, text):
    rows, ends = table
    return ends[stand_after(rows, 0, letter_numbers(text))]


def _limited(table):
    if len(table[0]) > MOST_STANDS:
        raise TooLarge("the table has more than 40 stands")
    return table


class Alike:
    """Pairs of stands that show that two tables have the same words."""

    def __init__(self, pairs):
        self.pairs = copied_list(pairs)

    def __eq__(self, other):
        return isinstance(other, Alike) and self.pairs == other.pairs

    def shows(self, one, other):
        """Return whether this is as described for two tables."""
        _check_two(one, other)
        return _are_closed(one, other, self.pairs, _differ)


class Parted:
    """A word of just one of two tables."""

    def __init__(self, word):
        self.word = word

    def __eq__(self, other):
        return isinstance(other, Parted) and self.word == other.word

    def shows(self, one, other):
        """Return whether this is as described for two tables."""
        _check_two(one, other)
        return is_text(table_size(one), self.word) and _has(one, self.word) != _has(other, self.word)


class Within:
    """Pairs of stands that show that the words of a table are words of another one."""

    def __init__(self, pairs):
        self.pairs = copied_list(pairs)

    def __eq__(self, other):
        return isinstance(other, Within) and self.pairs == other.pairs

    def shows(self, one, other):
        """Return whether this is as described for two tables."""
        _check_two(one, other)
        return _are_closed(one, other, self.pairs, _goes_beyond)


class Outside:
    """A word of the first one of two tables that is none of the other one."""

    def __init__(self, word):
        self.word = word

    def __eq__(self, other):
        return isinstance(other, Outside) and self.word == other.word

    def shows(self, one, other):
        """Return whether this is as described for two tables."""
        _check_two(one, other)
        return is_text(table_size(one), self.word) and _has(one, self.word) and not _has(other, self.word)


def judge_alike(one, other):
    """Return an Alike or a Parted for two tables."""
    _check_two(one, other)
    pairs, word = _compared(one, other, _differ)
    return Alike(pairs) if word is None else Parted(word)


def judge_within(one, other):
    """Return a Within or an Outside for two tables."""
    _check_two(one, other)
    pairs, word = _compared(one, other, _goes_beyond)
    return Within(pairs) if word is None else Outside(word)


def are_alike(one, other):
    """Return whether two tables have the same words."""
    return isinstance(judge_alike(one, other), Alike)


def is_within(one, other):
    """Return whether the words of a table are all words of another one."""
    return isinstance(judge_within(one, other), Within)


def both(one, other):
    """Return the least table of the words that two tables have."""
    return _joined(one, other, lambda first, second: first and second)


def either(one, other):
    """Return the least table of the words that at least one of two tables has."""
    return _joined(one, other, lambda first, second: first or second)


def without(one, other):
    """Return the least table of the words of a table that are none of another one."""
    return _joined(one, other, lambda first, second: first and not second)


def _check_two(one, other):
    check_table(one)
    check_table(other)
    if table_size(one) != table_size(other):
        raise Unequal("the tables are not of one size")


def _differ(one, other, pair):
    return one[1][pair[0]] != other[1][pair[1]]


def _goes_beyond(one, other, pair):
    return one[1][pair[0]] and not other[1][pair[1]]


def _behind(one, other, pair, letter):
    return one[0][pair[0]][letter], other[0][pair[1]][letter]


def _all_pairs(one, other):
    return explored((0, 0), lambda pair, letter: _behind(one, other, pair, letter), table_size(one))


def _compared(one, other, clash):
    """Return all pairs of stands to which one text leads, and the first text that leads to a clash, or None."""
    pairs, rows = _all_pairs(one, other)
    for stand, text in first_texts(rows).items():
        if clash(one, other, pairs[stand]):
            return pairs, text
    return pairs, None


def _are_closed(one, other, pairs, clash):
    """Return whether pairs of stands have the first one and all that letters lead to, and none that clashes."""
    if not all([_is_pair(one, other, pair) for pair in pairs]):
        return False
    known = {pair: True for pair in pairs}
    if (0, 0) not in known or any([clash(one, other, pair) for pair in known]):
        return False
    letters = range(table_size(one))
    return all([_behind(one, other, pair, letter) in known for pair in known for letter in letters])


def _is_pair(one, other, pair):
    if not is_tuple_of(pair, 2):
        return False
    return is_between(pair[0], 0, len(one[0]) - 1) and is_between(pair[1], 0, len(other[0]) - 1)


def _joined(one, other, is_end):
    _check_two(one, other)
    pairs, rows = _all_pairs(one, other)
    ends = [is_end(one[1][first], other[1][second]) for first, second in pairs]
    return _limited(least_of(rows, ends))
