"""Patterns as places of letters: where a text can be in them, as the bits of an integer."""

from patternways.kinds import LETTERS, bits


class Positions:
    """The places of the letters of patterns, each one a bit; bit 0 is ahead of all of them."""

    def __init__(self, size):
        self.having = [0] * size
        self.follow = [0]

    def place(self, letters):
        """Add a place for one of these letters, and return its bit."""
        bit = 1 << len(self.follow)
        self.follow.append(0)
        for letter in letters:
            self.having[LETTERS.index(letter)] |= bit
        return bit

    def link(self, ahead, behind):
        """Let each place of behind come next to each place of ahead."""
        for place in bits(ahead):
            self.follow[place] |= behind

    def step(self, mask, letter):
        """Return the places where one can be behind one letter more."""
        later = 0
        for place in bits(mask):
            later |= self.follow[place]
        return later & self.having[letter]


def spread(net, pattern):
    """Add the places of a pattern to a net; return whether it has the empty text, its first and its last places."""
    word = pattern[0]
    if word == "none":
        return (False, 0, 0)
    if word == "empty":
        return (True, 0, 0)
    if word == "one":
        place = net.place(pattern[1])
        return (False, place, place)
    if word == "row":
        return _in_row(net, [spread(net, part) for part in pattern[1:]])
    if word == "any":
        return _any_of([spread(net, part) for part in pattern[1:]])
    if word == "group":
        return spread(net, pattern[1])
    return _again(net, pattern)


def _again(net, pattern):
    # each turn has places of its own: so the places are no more than the weight
    _, part, least, most, _ = pattern
    turns = [spread(net, part) for _ in range(least)]
    if most is None:
        _, first, last = spread(net, part)
        net.link(last, first)
        turns.append((True, first, last))
        return _in_row(net, turns)
    for _ in range(most - least):
        _, first, last = spread(net, part)
        turns.append((True, first, last))
    return _in_row(net, turns)


def _in_row(net, parts):
    empty, first, last = True, 0, 0
    for has_empty, begins, ends in parts:
        net.link(last, begins)
        first = first | begins if empty else first
        last = last | ends if has_empty else ends
        empty = empty and has_empty
    return (empty, first, last)


def _any_of(parts):
    empty, first, last = False, 0, 0
    for has_empty, begins, ends in parts:
        empty = empty or has_empty
        first |= begins
        last |= ends
    return (empty, first, last)
