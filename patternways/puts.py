"""What is put for pieces, letter by letter."""

from patternways.outlooks import kind_at, spots_along


def put_by(rules, kind, letter, is_first, is_last):
    """Return what comes by a letter of a piece of a kind, which may be the first and the last letter of the piece."""
    if kind is None:
        return letter
    put = rules[1][kind][1]
    if put[0] == "word":
        return put[1] if is_last else ""
    ahead = put[1] if is_first else ""
    behind = put[2] if is_last else ""
    return ahead + letter + behind


def put_along(rules, table, text):
    """Return a list of what comes by each letter of a text: up to a place, it is what has come there."""
    spots = spots_along(table, text)
    found = []
    for place, letter in enumerate(text):
        stand, view = spots[place]
        later, _ = spots[place + 1]
        found.append(put_by(rules, kind_at(stand, view), letter, stand is None, later is None))
    return found
