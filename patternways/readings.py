"""Texts as rules read them: pieces, what comes of them, outlooks, spots, and pieces that stay by an edit."""

from patternways.checks import check_text
from patternways.errors import BadEdit
from patternways.kinds import is_between, is_text, is_tuple_of, letter_numbers
from patternways.outlooks import Outlooks, pieces_of
from patternways.puts import put_along
from patternways.rules import table_of_rules
from patternways.spots import spots_and_moves


def pieces(rules, text):
    """Return the list of the pieces of a text."""
    table = table_of_rules(rules)
    check_text(rules[0], text)
    return pieces_of(table, text)


def change(rules, text):
    """Return what comes of a text."""
    table = table_of_rules(rules)
    check_text(rules[0], text)
    return "".join(put_along(rules, table, text))


def outlook(rules, text):
    """Return the outlook of a text."""
    table = table_of_rules(rules)
    check_text(rules[0], text)
    return Outlooks(table).along(letter_numbers(text))[0]


def spots(rules):
    """Return a list of all spots."""
    found, _ = spots_and_moves(table_of_rules(rules))
    return found


def edited(rules, text, edit):
    """Return how many first pieces stay by an edit, the pieces behind them, and how many last ones stay."""
    table = table_of_rules(rules)
    check_text(rules[0], text)
    if not _is_edit(rules[0], text, edit):
        raise BadEdit("this is no edit of the text")
    place, gone, put = edit
    later = text[:place] + put + text[place + gone:]
    before, after = pieces_of(table, text), pieces_of(table, later)
    first = _same_first(before, after)
    ends = [_from_end(before[first:], len(text)), _from_end(after[first:], len(later))]
    last = _same_first(ends[0], ends[1])
    return first, after[first:len(after) - last], last


def _is_edit(size, text, edit):
    if not is_tuple_of(edit, 3):
        return False
    place, gone, put = edit
    return is_between(place, 0, len(text)) and is_between(gone, 0, len(text) - place) and is_text(size, put)


def _same_first(some, others):
    count = 0
    while count < min(len(some), len(others)) and some[count] == others[count]:
        count += 1
    return count


def _from_end(some, length):
    # the last piece first, with places counted from the end of the text
    return [(kind, length - first, length - past) for kind, first, past in reversed(some)]
