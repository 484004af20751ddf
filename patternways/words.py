"""Words of tables, counted, and indexed in their order."""

from patternways.checks import check_table, check_text, table_size
from patternways.errors import BadIndex, BadNumber, NoWord
from patternways.kinds import LETTERS, is_between, letter_numbers
from patternways.machines import first_texts, leading_to, stand_after

MOST_LENGTH = 60
MOST_INDEX = 9999


def count_words(table, length):
    """Return how many words have a length."""
    check_table(table)
    if not is_between(length, 0, MOST_LENGTH):
        raise BadNumber("a length is an integer from 0 to 60")
    useful = _useful(table)
    level = _first_level(useful)
    for _ in range(length):
        level = _next_level(table, useful, level)
    return _words_in(table, level)


def how_many(table):
    """Return how many words there are, None if they have no end."""
    check_table(table)
    counts = _counts(table)
    return None if counts is None else sum(counts)


def longest(table):
    """Return the length of the longest words, -1 if there are none, None if there is no longest one."""
    check_table(table)
    counts = _counts(table)
    return None if counts is None else len(counts) - 1


def first_word(table):
    """Return the first word, None if there is none."""
    check_table(table)
    rows, ends = table
    for stand, text in first_texts(rows).items():
        if ends[stand]:
            return text
    return None


def nth_word(table, index):
    """Return the word with an index."""
    check_table(table)
    if not is_between(index, 0, MOST_INDEX):
        raise BadIndex("an index is an integer from 0 to 9999")
    levels, left = _levels_to(table, index)
    counts = _counts_left(table, levels)
    stand = 0
    letters = []
    for at in range(1, len(levels)):
        for letter, later in enumerate(table[0][stand]):
            many = counts[at][levels[at].index(later)] if later in levels[at] else 0
            if left < many:
                letters.append(LETTERS[letter])
                stand = later
                break
            left -= many
    return "".join(letters)


def word_index(table, text):
    """Return the index of a word."""
    check_table(table)
    check_text(table_size(table), text)
    rows, ends = table
    letters = letter_numbers(text)
    if not ends[stand_after(rows, 0, letters)]:
        raise NoWord("this is no word of the table")
    useful = _useful(table)
    level = _first_level(useful)
    lesser = {}
    stand = 0
    index = 0
    for letter in letters:
        index += _words_in(table, level)
        level = _next_level(table, useful, level)
        lesser = _next_level(table, useful, lesser)
        for later in rows[stand][:letter]:
            if useful[later]:
                lesser[later] = lesser.get(later, 0) + 1
        stand = rows[stand][letter]
    return index + _words_in(table, lesser)


def _useful(table):
    # only stands from which a word can still be come to are counted: so numbers are never greater than needed
    rows, ends = table
    leads = leading_to(rows, ends)
    return [ends[stand] or leads[stand] for stand in range(len(rows))]


def _first_level(useful):
    return {0: 1} if useful[0] else {}


def _next_level(table, useful, level):
    """Return how many texts lead to each useful stand, from how many did with one letter less."""
    later = {}
    for stand, many in level.items():
        for target in table[0][stand]:
            if useful[target]:
                later[target] = later.get(target, 0) + many
    return later


def _words_in(table, level):
    return sum([many for stand, many in level.items() if table[1][stand]])


def _counts(table):
    """Return how many words have each length, from 0 on, up to the longest ones; None if they have no end."""
    # a useful stand from which no useful one is come to is an end: so at the last length there are words
    useful = _useful(table)
    level = _first_level(useful)
    counts = []
    while level and len(counts) < len(table[0]):
        counts.append(_words_in(table, level))
        level = _next_level(table, useful, level)
    # as many letters as stands lead to some stand twice, and so to words without end
    return None if level else counts


def _levels_to(table, index):
    """Return the useful stands for each number of letters of the word with an index, and how many words of its
    length are ahead of it."""
    useful = _useful(table)
    level = _first_level(useful)
    levels = []
    while level:
        levels.append(tuple(level))
        many = _words_in(table, level)
        if index < many:
            return levels, index
        index -= many
        level = _next_level(table, useful, level)
    raise BadIndex("there is no word with this index")


def _counts_left(table, levels):
    """Return, for each of the levels, by how many texts each of its stands leads to a word at the last one."""
    rows, ends = table
    counts = [tuple([1 if ends[stand] else 0 for stand in levels[-1]])]
    for at in range(len(levels) - 2, -1, -1):
        behind = {stand: counts[-1][place] for place, stand in enumerate(levels[at + 1])}
        counts.append(tuple([sum([behind.get(later, 0) for later in rows[stand]]) for stand in levels[at]]))
    counts.reverse()
    return counts
