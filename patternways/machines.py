"""Going along letters: all that is come to, the first texts that lead there, and least tables."""

from patternways.errors import TooLarge
from patternways.kinds import LETTERS


def explored(start, step, size, most=None):
    """Return all that is come to from a start, and for each of it a row of the numbers to which the letters lead.

    step(thing, letter) tells to what the letter with this number leads. What is found is numbered in the order
    of the first texts that lead to it. If it is more than most, if that is given, the error is TooLarge.
    """
    found = [start]
    numbers = {start: 0}
    rows = []
    while len(rows) < len(found):
        thing = found[len(rows)]
        row = []
        for letter in range(size):
            later = step(thing, letter)
            if later not in numbers:
                numbers[later] = len(found)
                found.append(later)
            row.append(numbers[later])
        if most is not None and len(found) > most:
            raise TooLarge(f"there are more than {most}")
        rows.append(tuple(row))
    return found, rows


def first_texts(rows, start=0):
    """Return a dict from all stands that are come to from a start to the first texts that lead there, in order."""
    texts = {start: ""}
    queue = [start]
    at = 0
    while at < len(queue):
        stand = queue[at]
        for letter, later in enumerate(rows[stand]):
            if later not in texts:
                texts[later] = texts[stand] + LETTERS[letter]
                queue.append(later)
        at += 1
    return texts


def stand_after(rows, stand, letters):
    """Return the stand to which letters, given by their numbers, lead from a stand."""
    for letter in letters:
        stand = rows[stand][letter]
    return stand


def leading_to(rows, marked):
    """Return for each stand whether one or more letters lead from it to a stand that is marked."""
    leads = [False] * len(rows)
    grows = True
    while grows:
        before = list(leads)
        leads = [any([marked[later] or before[later] for later in row]) for row in rows]
        grows = leads != before
    return leads


def least_of(rows, marks):
    """Return the rows and marks, as tuples, with the fewest stands by which each text has the same mark.

    They are numbered in the order of the first texts that lead to them; to each stand a text must lead.
    """
    blocks = _numbered(marks)
    many = 0
    # what is told apart by marks is refined by where letters lead, until nothing more is told apart
    while max(blocks) + 1 > many:
        many = max(blocks) + 1
        blocks = _numbered([(blocks[at], tuple([blocks[later] for later in row])) for at, row in enumerate(rows)])
    likes = {}
    for at, block in enumerate(blocks):
        likes.setdefault(block, at)
    found, least = explored(blocks[0], lambda block, letter: blocks[rows[likes[block]][letter]], len(rows[0]))
    return tuple(least), tuple([marks[likes[block]] for block in found])


def _numbered(keys):
    numbers = {}
    for key in keys:
        numbers.setdefault(key, len(numbers))
    return [numbers[key] for key in keys]
