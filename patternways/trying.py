"""Tries: how many ways a pattern is gone through on texts, and how fast their number grows."""

from patternways.checks import check_pattern, check_size, check_text
from patternways.climbs import Climbs, Sorts, first_doubling
from patternways.frames import Frames
from patternways.kinds import copied, copied_list, is_between, is_integer, is_same, is_text, is_tuple_of, letter_numbers
from patternways.walks import counted, width_of


class Doubling:
    """A sort of stops that has itself at least twice by a text."""

    def __init__(self, begin, ring, frames):
        self.begin = begin
        self.ring = ring
        self.frames = copied(frames)

    def __eq__(self, other):
        return (isinstance(other, Doubling) and self.begin == other.begin and self.ring == other.ring
                and self.frames == other.frames)

    def shows(self, size, pattern):
        """Return whether this is as described for a pattern of a size."""
        sorts = _sorts_for(size, pattern)
        sort = _sort_of(sorts, self.frames)
        if sort is None or not is_text(size, self.begin) or not is_text(size, self.ring):
            return False
        return sort in sorts.are_behind(self.begin) and sorts.had_by(sort, self.ring).get(sort, 0) > 1


class Climbing:
    """A longest ladder of pairs of sorts that climb, and levels that show that there is no longer one."""

    def __init__(self, number, begin, ladder, levels):
        self.number = number
        self.begin = begin
        self.ladder = copied_list(ladder)
        self.levels = copied(levels)

    def __eq__(self, other):
        return (isinstance(other, Climbing) and self.number == other.number and self.begin == other.begin
                and self.ladder == other.ladder and self.levels == other.levels)

    def shows(self, size, pattern):
        """Return whether this is as described for a pattern of a size."""
        sorts = _sorts_for(size, pattern)
        if first_doubling(sorts) is not None or not is_integer(self.number) or not is_text(size, self.begin):
            return False
        return self._is_ladder(sorts) and self._are_levels(sorts)

    def _is_ladder(self, sorts):
        if not isinstance(self.ladder, list) or len(self.ladder) != self.number:
            return False
        steps = [_step_of(sorts, step) for step in self.ladder]
        if not all([step is not None and _climbs(sorts, step) for step in steps]):
            return False
        if not steps:
            return self.begin == ""
        if steps[0][0] not in sorts.are_behind(self.begin) or steps[-1][3] != "":
            return False
        return all([later[0] in sorts.had_by(step[1], step[3]) for step, later in zip(steps, steps[1:])])

    def _are_levels(self, sorts):
        if not isinstance(self.levels, dict):
            return False
        levels = {}
        for rest, level in self.levels.items():
            sort = _sort_of(sorts, rest)
            if sort is None or not is_between(level, 0, self.number):
                return False
            levels[sort] = level
        if len(levels) != len(sorts.texts):
            return False
        for sort, rows in sorts.rows.items():
            if any([levels[later] > levels[sort] for row in rows for later in row]):
                return False
        return all([levels[one] > levels[other] for one, other in Climbs(sorts).pairs])


def tries(size, pattern, text):
    """Return how many tries it takes to try a pattern on a text."""
    return sum(widths(size, pattern, text))


def widths(size, pattern, text):
    """Return the list of the widths behind each number of letters of a text."""
    check_size(size)
    check_pattern(size, pattern)
    check_text(size, text)
    frames = Frames(size, pattern)
    sorts = frames.sorts_of(frames.first)
    found = [width_of(sorts)]
    for letter in letter_numbers(text):
        sorts = counted(frames, sorts, letter)
        found.append(width_of(sorts))
    return found


def growth(size, pattern):
    """Return a Doubling or a Climbing for a pattern of a size."""
    sorts = _sorts_for(size, pattern)
    double = first_doubling(sorts)
    if double is not None:
        sort, ring = double
        return Doubling(sorts.texts[sort], ring, sorts.frames.spelled(sort))
    climbs = Climbs(sorts)
    ladder = climbs.find_ladder()
    links = [sorts.leading(pair[1], later[0]) for pair, later in zip(ladder, ladder[1:])] + [""]
    steps = []
    for (one, other), link in zip(ladder, links):
        steps.append((sorts.frames.spelled(one), sorts.frames.spelled(other), climbs.pairs[(one, other)], link))
    levels = {sorts.frames.spelled(sort): level for sort, level in climbs.levels.items()}
    return Climbing(climbs.power(), sorts.texts[ladder[0][0]] if ladder else "", steps, levels)


def _sorts_for(size, pattern):
    check_size(size)
    check_pattern(size, pattern)
    return Sorts(size, pattern)


def _sort_of(sorts, rest):
    """Return the sort that is written as this rest, None if there is none that comes about."""
    for sort in sorts.texts:
        if is_same(sorts.frames.spelled(sort), rest):
            return sort
    return None


def _step_of(sorts, step):
    """Return a step of a ladder, with the sorts as they are numbered; None if it is no such step."""
    if not is_tuple_of(step, 4) or not is_text(sorts.frames.size, step[2]) or not is_text(sorts.frames.size, step[3]):
        return None
    one, other = _sort_of(sorts, step[0]), _sort_of(sorts, step[1])
    return None if one is None or other is None else (one, other, step[2], step[3])


def _climbs(sorts, step):
    one, other, text, _ = step
    had = sorts.had_by(one, text)
    return one != other and one in had and other in had and other in sorts.had_by(other, text)
