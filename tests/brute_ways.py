"""What the document says of ways of patterns, done plainly and slowly, for the tests to compare with."""

from itertools import count

from patternways.patterns import weight_of
from tests.brute import texts


def numbered(pattern):
    """A pattern in which each group is written with its number, and how many groups there are."""
    numbers = count()

    def written(part):
        if part[0] == "group":
            number = next(numbers)
            return ("group", written(part[1]), number)
        return tuple(written(item) if isinstance(item, tuple) else item for item in part)

    found = written(pattern)
    return found, next(numbers)


def in_stop(frame):
    """A frame as it is in a stop."""
    if frame[0] != "turn":
        return frame
    _, again, done, _ = frame
    return ("turn", again, done if again[3] is not None else min(done, again[2]), False)


def stops_of(rest, place, marks):
    """The stops of a rest at a place and with marks."""
    if not rest or rest[0][0] == "one":
        return [(tuple(in_stop(frame) for frame in rest), marks)]
    frame, left = rest[0], rest[1:]
    kind = frame[0]
    if kind == "none":
        return []
    if kind == "empty":
        return stops_of(left, place, marks)
    if kind == "row":
        return stops_of(frame[1:] + left, place, marks)
    if kind == "any":
        return [stop for part in frame[1:] for stop in stops_of((part,) + left, place, marks)]
    if kind == "again":
        return stops_of((("turn", frame, 0, False),) + left, place, marks)
    if kind == "group":
        _, part, group = frame
        return stops_of((part, ("close", group)) + left, place, changed(marks, group, (place, marks[group][1])))
    if kind == "close":
        begun = marks[frame[1]][0]
        return stops_of(left, place, changed(marks, frame[1], (begun, (begun, place))))
    _, again, done, is_new = frame
    _, part, least, most, way = again
    if is_new and done > least:
        return []
    going = stopping = []
    if most is None or done < most:
        going = stops_of((part, ("turn", again, done + 1, True)) + left, place, marks)
    if done >= least:
        stopping = stops_of(left, place, marks)
    return going + stopping if way == "many" else stopping + going


def changed(marks, group, mark):
    """Marks with another one for a group."""
    return tuple(mark if number == group else other for number, other in enumerate(marks))


def stops_along(pattern, text):
    """The stops of a pattern behind each beginning of a text."""
    written, groups = numbered(pattern)
    found = [stops_of((written,), 0, ((None, None),) * groups)]
    for place, letter in enumerate(text, 1):
        found.append([stop for rest, marks in found[-1] if rest and letter in rest[0][1]
                      for stop in stops_of(rest[1:], place, marks)])
    return found


def ways_of(stops):
    """What the ways among stops give the groups."""
    return [tuple(pair for _, pair in marks) for rest, marks in stops if rest == ()]


def first_of(stops):
    """What the first way among stops gives the groups, None if there is none."""
    return (ways_of(stops) + [None])[0]


def standing_of(two, place):
    """The standing of two patterns at a place, of all stops of both."""
    names = {place: 0}

    def name(some):
        return None if some is None else names.setdefault(some, len(names))

    found = []
    for stops in two:
        first = {}
        for rest, marks in stops:
            first.setdefault(rest, marks)
        found.append(tuple((rest, tuple((name(begun), pair if pair is None else (name(pair[0]), name(pair[1])))
                                        for begun, pair in marks)) for rest, marks in first.items()))
    return tuple(found)


def standing_behind(one, other, text):
    """The standing of two patterns behind a text."""
    return standing_of([stops_along(pattern, text)[-1] for pattern in (one, other)], len(text))


def is_twin(size, one, other, some):
    """Whether texts are as a Twin has them."""
    known = [standing_behind(one, other, text) for text in some]
    return "" in some and all(standing_behind(one, other, text + letter) in known
                              for text in some for letter in "abc"[:size]) and all(
        first_of(stops_along(one, text)[-1]) == first_of(stops_along(other, text)[-1]) for text in some)


class Sorts:
    """The sorts that come about of a pattern, and how often they have one another by letters."""

    def __init__(self, size, pattern):
        written, groups = numbered(pattern)
        self.size, self.marks = size, ((None, None),) * groups
        self.first = [rest for rest, _ in stops_of((written,), 0, self.marks)]
        self.found = list(dict.fromkeys(self.first))
        for sort in self.found:
            self.found.extend(later for letter in "abc"[:size] for later in dict.fromkeys(self.had(sort, letter))
                              if later not in self.found)

    def had(self, sort, letter):
        """The sorts that a sort has by a letter, each as often as it comes."""
        if not sort or letter not in sort[0][1]:
            return []
        return [rest for rest, _ in stops_of(sort[1:], 0, self.marks)]

    def had_by(self, sorts, text):
        """The sorts that some sorts have by a text, each as often as it comes."""
        for letter in text:
            sorts = [later for sort in sorts for later in self.had(sort, letter)]
        return sorts

    def climbs_by(self, one, other, text):
        """Whether a pair of sorts climbs by a text."""
        return (one != other and {one, other} <= set(self.had_by([one], text))
                and other in self.had_by([other], text))

    def is_doubling(self, begin, ring, frames):
        """Whether these are as a Doubling has them."""
        return frames in self.had_by(self.first, begin) and self.had_by([frames], ring).count(frames) > 1

    def is_climbing(self, number, begin, ladder, levels):
        """Whether these are as a Climbing has them, but for all texts by which pairs climb that are longer than 4."""
        if len(ladder) != number or not all(self.climbs_by(*step[:3]) for step in ladder):
            return False
        for step, later in zip(ladder, ladder[1:]):
            if later[0] not in self.had_by([step[1]], step[3]):
                return False
        if ladder and (ladder[0][0] not in self.had_by(self.first, begin) or ladder[-1][3] != ""):
            return False
        if not ladder and begin != "" or set(levels) != set(self.found) or not set(levels.values()) <= set(
                range(number + 1)):
            return False
        for sort in self.found:
            if any(levels[later] > levels[sort] for letter in "abc"[:self.size] for later in self.had(sort, letter)):
                return False
        return all(levels[one] > levels[other] for text in texts(self.size, 4, 1) for one in self.found
                   for other in self.found if self.climbs_by(one, other, text))


def grouped_pattern(chance, size, depth=3):
    """A pattern with groups and turns, perhaps too heavy."""
    dice = chance.random()
    if depth == 0 or dice < 0.2:
        if chance.random() < 0.15:
            return chance.choice([("none",), ("empty",), ("empty",)])
        return ("one", "".join(sorted(chance.sample("abc"[:size], chance.randint(1, size)))))
    if dice < 0.4:
        return ("row", *[grouped_pattern(chance, size, depth - 1) for _ in range(chance.randint(2, 3))])
    if dice < 0.55:
        return ("any", *[grouped_pattern(chance, size, depth - 1) for _ in range(chance.randint(2, 3))])
    if dice < 0.75:
        return ("group", grouped_pattern(chance, size, depth - 1))
    most = chance.choice([None, None, 1, 2, 3])
    least = chance.randint(0, 2 if most is None else most)
    return ("again", grouped_pattern(chance, size, depth - 1), least, most, chance.choice(["many", "few"]))


def good_grouped(chance, size, depth=3):
    """A pattern of a size with groups and turns."""
    while True:
        pattern = grouped_pattern(chance, size, depth)
        if weight_of(size, pattern) is not None:
            return pattern
