"""Pairs of a rest and of a standing of a row, and how letters lead from them to others."""


def ways_from(rests, starts):
    """Return a dict of all pairs that are come to from some: to lists of triples of a letter, a pair, and a text.

    The letter, with the rest of the later pair behind it, leads to this pair, and the text is what comes by it.
    """
    found = {}
    waiting = list(starts)
    while waiting:
        pair = waiting.pop()
        if pair not in found:
            found[pair] = ways_on(rests, pair)
            waiting.extend([later for _, later, _ in found[pair]])
    return found


def ways_on(rests, pair):
    """Return the triples of a letter, a pair behind it, and what comes by it, for one pair."""
    found = []
    for letter, rest in rests.ways[pair[0]]:
        standing, text = rests.stepped(0, pair[1], letter, rest)
        found.append((letter, (rest, standing), text))
    return found


def starts_of(rests):
    """Return the pairs at the beginning of texts: of each rest, and of a standing of None alone."""
    standing = rests.start(0)
    return [(rest, standing) for rest in range(len(rests.texts))]
