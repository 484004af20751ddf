"""Ways of patterns: the stops behind a text, and what they give the groups of a pattern."""

from patternways.checks import check_pattern, check_size, check_text
from patternways.errors import TooMany
from patternways.frames import Frames
from patternways.kinds import letter_numbers
from patternways.walks import all_stops, counted, first_marks, first_stops, given, letters_taken, width_of

MOST_STOPS = 300


def stops(size, pattern, text):
    """Return the list of the stops of a pattern behind a text."""
    frames = _frames_for(size, pattern, text)
    return [(frames.spelled(sort), marks) for sort, marks in _stops_behind(frames, text)]


def first_way(size, pattern, text):
    """Return what the first way of a pattern for a text gives each group, None if there is no way."""
    frames = _frames_for(size, pattern, text)
    found = first_stops(frames, [(frames.first, first_marks(frames))], 0)
    for index, letter in enumerate(letter_numbers(text)):
        found = first_stops(frames, letters_taken(frames, found, letter), index + 1)
    firsts = [given(marks) for sort, marks in found if sort == ()]
    return firsts[0] if firsts else None


def ways(size, pattern, text):
    """Return the list of what each way of a pattern for a text gives each group."""
    frames = _frames_for(size, pattern, text)
    return [given(marks) for sort, marks in _stops_behind(frames, text) if sort == ()]


def _frames_for(size, pattern, text):
    check_size(size)
    check_pattern(size, pattern)
    check_text(size, text)
    return Frames(size, pattern)


def _check_width(sorts):
    if width_of(sorts) > MOST_STOPS:
        raise TooMany("there are more than 300 stops behind a beginning of the text")


def _stops_behind(frames, text):
    """Return all stops behind a text; they are counted first, so that only so many are ever gone through."""
    sorts = frames.sorts_of(frames.first)
    _check_width(sorts)
    for letter in letter_numbers(text):
        sorts = counted(frames, sorts, letter)
        _check_width(sorts)
    found = all_stops(frames, [(frames.first, first_marks(frames))], 0)
    for index, letter in enumerate(letter_numbers(text)):
        found = all_stops(frames, letters_taken(frames, found, letter), index + 1)
    return found
