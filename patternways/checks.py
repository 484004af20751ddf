"""Checks of arguments that many functions take, with the errors for them."""

from patternways.errors import BadPattern, BadRow, BadRules, BadSize, BadTable, BadText
from patternways.kinds import LETTERS, is_between, is_short_text, is_size, is_text, is_tuple_of
from patternways.machines import first_texts
from patternways.patterns import weight_of

MOST_STANDS = 40
MOST_RULES = 4
MOST_WEIGHTS = 10
MOST_PUT = 3
MOST_ROW = 3


def check_size(size):
    """Raise BadSize if this is no size."""
    if not is_size(size):
        raise BadSize("a size is 1, 2 or 3")


def check_pattern(size, pattern):
    """Raise BadPattern if this is no pattern of the size."""
    if weight_of(size, pattern) is None:
        raise BadPattern("this is no pattern of the size")


def check_text(size, text):
    """Raise BadText if this is no text of the size."""
    if not is_text(size, text):
        raise BadText("this is no text of the letters of the size")


def check_table(table):
    """Raise BadTable if this is no table with at most 40 stands."""
    if not is_table(table):
        raise BadTable("this is no table with at most 40 stands")


def table_size(table):
    """Return the size of a table, also of a table of rules."""
    return len(table[0][0])


def check_rules(rules):
    """Raise BadRules if these are no rules."""
    fault = _rules_fault(rules)
    if fault is not None:
        raise BadRules(fault[0])


def are_rules(rules):
    """Return whether these are rules."""
    return _rules_fault(rules) is None


def check_is_row(row):
    """Raise BadRow if this is no row."""
    if not isinstance(row, tuple) or not 1 <= len(row) <= MOST_ROW:
        raise BadRow("a row is a tuple of one to three rules")
    if not all([are_rules(rules) for rules in row]):
        raise BadRow("something in the row is no rules")
    if not all([rules[0] == row[0][0] for rules in row]):
        raise BadRow("the rules of a row are of one size")


def _rules_fault(rules):
    """Return None for rules, otherwise a tuple of the index that BadRules has."""
    if not is_tuple_of(rules, 2) or not is_size(rules[0]):
        return (None,)
    size, items = rules
    if not isinstance(items, tuple) or not 1 <= len(items) <= MOST_RULES:
        return (None,)
    weights = 0
    for index, item in enumerate(items):
        if not is_tuple_of(item, 2):
            return (index,)
        weight = weight_of(size, item[0])
        if weight is None or weights + weight > MOST_WEIGHTS or not _is_put(size, item[1]):
            return (index,)
        weights += weight
    return None


def _is_put(size, put):
    if not isinstance(put, tuple) or len(put) == 0 or not isinstance(put[0], str):
        return False
    if not (put[0] == "word" and len(put) == 2 or put[0] == "round" and len(put) == 3):
        return False
    return all([is_short_text(size, text, MOST_PUT) for text in put[1:]])


def is_table(table):
    """Return whether something is a table with at most 40 stands."""
    if not is_tuple_of(table, 2) or not isinstance(table[0], tuple) or not isinstance(table[1], tuple):
        return False
    rows, ends = table
    if not 1 <= len(rows) <= MOST_STANDS or len(ends) != len(rows):
        return False
    if not all([isinstance(end, bool) for end in ends]) or not _are_rows(rows):
        return False
    return len(first_texts(rows)) == len(rows)


def _are_rows(rows):
    if not isinstance(rows[0], tuple) or not 1 <= len(rows[0]) <= len(LETTERS):
        return False
    if not all([is_tuple_of(row, len(rows[0])) for row in rows]):
        return False
    return all([is_between(later, 0, len(rows) - 1) for row in rows for later in row])
