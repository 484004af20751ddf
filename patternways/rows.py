"""Rows of rules: changes, standings, prospects and rests."""

from patternways.checks import check_text
from patternways.errors import BadPlace
from patternways.kinds import is_between
from patternways.rests import rests_of_row
from patternways.stages import change_of, standing_at, tables_for


def check_row(row):
    """Raise BadRow if this is no row, and TooLarge if a table or the prospects of texts are more than 40."""
    rests_of_row(row)


def changed(row, text):
    """Return the change of a text by a row."""
    return change_of(row, tables_for(row, text), text)


def prospects(row, text):
    """Return the prospects of a text for a row."""
    found = rests_of_row(row)
    check_text(found.size, text)
    number = found.number_of(text)
    return found.stages[0].spelled(found.found[number][0])


def rests(row):
    """Return the list of the first texts that have their prospects."""
    return list(rests_of_row(row).texts)


def standing(row, text, place):
    """Return the standing at a place of a text, and what has come there."""
    tables = tables_for(row, text)
    if not is_between(place, 0, len(text)):
        raise BadPlace("this is no place of the text")
    return standing_at(row, tables, text, place)
