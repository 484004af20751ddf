"""What patterns are, and their weights."""

from patternways.kinds import LETTERS, is_between, is_text, is_tuple_of

MOST_PARTS = 12
MOST_WEIGHT = 8
MOST_TURNS = 3
LEAST_IN_ROW = 2
MOST_IN_ROW = 4


def inner_patterns(pattern):
    """Return the patterns that stand directly in a pattern."""
    word = pattern[0]
    if word in ("row", "any"):
        return list(pattern[1:])
    if word in ("again", "group"):
        return [pattern[1]]
    return []


def weight_of(size, pattern):
    """Return the weight of a pattern; None if it is no pattern of the size."""
    if not _has_parts(size, pattern):
        return None
    weight = _weight(pattern)
    return weight if weight <= MOST_WEIGHT else None


def _has_parts(size, pattern):
    # parts are counted as they are found, so that nothing is gone through that is nested without end
    waiting = [pattern]
    count = 0
    while waiting:
        part = waiting.pop()
        count += 1
        if count > MOST_PARTS or not _is_part(size, part):
            return False
        waiting.extend(inner_patterns(part))
    return True


def _is_part(size, part):
    if not isinstance(part, tuple) or len(part) == 0 or not isinstance(part[0], str):
        return False
    word = part[0]
    if word in ("none", "empty"):
        return len(part) == 1
    if word == "one":
        return len(part) == 2 and _are_letters(size, part[1])
    if word in ("row", "any"):
        return LEAST_IN_ROW <= len(part) - 1 <= MOST_IN_ROW
    if word == "again":
        return is_tuple_of(part, 5) and _are_bounds(part[2], part[3]) and _is_way(part[4])
    return word == "group" and len(part) == 2


def _are_letters(size, letters):
    if not is_text(size, letters) or not 1 <= len(letters) <= size:
        return False
    return letters == "".join([letter for letter in LETTERS if letter in letters])


def _are_bounds(least, most):
    if not is_between(least, 0, MOST_TURNS):
        return False
    return most is None or is_between(most, max(least, 1), MOST_TURNS)


def _is_way(way):
    return isinstance(way, str) and way in ("many", "few")


def _weight(pattern):
    word = pattern[0]
    if word == "none":
        return 0
    if word in ("empty", "one"):
        return 1
    inner = sum([_weight(part) for part in inner_patterns(pattern)])
    if word != "again":
        return inner
    _, _, least, most, _ = pattern
    return inner * (least + 1 if most is None else most)
