"""Kinds of values: integers, sizes, texts, and copies of what is given."""

LETTERS = "abc"


def is_integer(value):
    """Return whether a value is an integer; booleans are none."""
    return isinstance(value, int) and not isinstance(value, bool)


def is_between(value, low, high):
    """Return whether a value is an integer from low to high."""
    return is_integer(value) and low <= value <= high


def is_size(value):
    """Return whether a value is a size."""
    return is_between(value, 1, len(LETTERS))


def is_text(size, value):
    """Return whether a value is a text of the letters of a size."""
    # strip takes away letters of the size alone, so that only what is no text leaves anything
    return isinstance(value, str) and value.strip(LETTERS[:size]) == ""


def is_short_text(size, value, most):
    """Return whether a value is a text of a size with at most so many letters."""
    return isinstance(value, str) and len(value) <= most and is_text(size, value)


def is_tuple_of(value, many):
    """Return whether a value is a tuple of so many items."""
    return isinstance(value, tuple) and len(value) == many


def is_same(one, other):
    """Return whether two values are equal, also in what is boolean in them."""
    if isinstance(one, tuple) and isinstance(other, tuple):
        return len(one) == len(other) and all([is_same(item, same) for item, same in zip(one, other)])
    return isinstance(one, bool) == isinstance(other, bool) and one == other


def letter_numbers(text):
    """Return the numbers of the letters of a text."""
    return [LETTERS.index(letter) for letter in text]


def bits(mask):
    """Return the numbers of the bits that are set in an integer, ascending."""
    found = []
    while mask:
        lowest = mask & -mask
        found.append(lowest.bit_length() - 1)
        mask ^= lowest
    return found


def copied(value):
    """Return a value in which all lists and dicts are new."""
    if isinstance(value, list):
        return [copied(item) for item in value]
    if isinstance(value, tuple):
        return tuple([copied(item) for item in value])
    if isinstance(value, dict):
        return {key: copied(value[key]) for key in value}
    return value


def copied_list(value):
    """Return a copy in which a tuple has become a list."""
    if isinstance(value, tuple):
        return copied(list(value))
    return copied(value)
