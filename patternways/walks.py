"""Texts gone through in a pattern: stops with their marks, and how many there are."""

from patternways.frames import BEGUN


def first_marks(frames):
    """Return the marks with which one begins."""
    return tuple([(None, None) for _ in range(frames.groups)])


def given(marks):
    """Return what marks give each group: a pair of places, or None."""
    return tuple([pair for _, pair in marks])


def letters_taken(frames, stops, letter):
    """Return the rests behind a letter, with their marks, of those stops that it takes, in order."""
    found = []
    for sort, marks in stops:
        rest = frames.behind(sort, letter)
        if rest is not None:
            found.append((rest, marks))
    return found


def all_stops(frames, rests, place):
    """Return all stops of rests with marks at a place, in order: pairs of a sort and marks."""
    found = []
    waiting = _in_turn(rests)
    while waiting:
        rest, marks = waiting.pop()
        if frames.is_stop(rest):
            found.append((frames.settled(rest), marks))
        else:
            waiting.extend(_ways_on(frames, rest, marks, place))
    return found


def first_stops(frames, rests, place):
    """Return the stops of rests with marks at a place, in order, without those whose sort some earlier one has."""
    found = {}
    seen = {}
    waiting = _in_turn(rests)
    while waiting:
        rest, marks = waiting.pop()
        # from the same rest one comes to the same sorts again, and they are had already
        if rest in seen:
            continue
        seen[rest] = True
        if frames.is_stop(rest):
            found.setdefault(frames.settled(rest), marks)
        else:
            waiting.extend(_ways_on(frames, rest, marks, place))
    return [(sort, found[sort]) for sort in found]


def counted(frames, sorts, letter):
    """Return how often the stops behind a letter have each sort, if those ahead of it have sorts so often."""
    found = {}
    for sort, many in sorts.items():
        rest = frames.behind(sort, letter)
        if rest is not None:
            for later, times in frames.sorts_of(rest).items():
                found[later] = found.get(later, 0) + many * times
    return found


def width_of(sorts):
    """Return how many stops there are, if they have sorts so often."""
    return sum([many for many in sorts.values()])


def _in_turn(rests):
    return list(reversed(rests))


def _ways_on(frames, rest, marks, place):
    """Return the rests with which one goes on from a rest, with their marks, the last one first."""
    # from some rests one comes to no stop
    return _in_turn([(later, _marked(marks, act, place)) for later, act in frames.branches_of(rest)
                     if frames.sorts_of(later)])


def _marked(marks, act, place):
    if act is None:
        return marks
    deed, group = act
    begun, pair = marks[group]
    mark = (place, pair) if deed == BEGUN else (begun, (begun, place))
    return (*marks[:group], mark, *marks[group + 1:])
