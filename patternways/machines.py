"""Going along letters: all that is come to, the first texts that lead there, and least tables."""

from patternways.errors import TooLarge
from patternways.kinds import LETTERS


def explored(start, step, size, most=None):
    """Return all that is come to from a start, and for each of it a row of the numbers to which the letters lead.

    step(thing, letter) tells to what the letter with this number leads. What is found is numbered in the order
    of the first texts that lead to it. If it is more than most, if that is given, the error is TooLarge.
    """
    found = [start]
    numbers = {start: 0}
    rows = []
    while len(rows) < len(found):
        thing = found[len(rows)]
        row = []
        for letter in range(size):
            later = step(thing, letter)
            if later not in numbers:
                numbers[later] = len(found)
                found.append(later)
            row.append(numbers[later])
        if most is not None and len(found) > most:
            raise TooLarge(f"there are more than {most}")
        rows.append(tuple(row))
    return found, rows


def explored_ahead(start, step, size, most):
    """Return all that is come to from a start by letters put ahead, its rows, and the first texts that have it.

    step(thing, letter) tells what a text has that is the letter with this number and, behind it, a text that has
    the thing. What is found is numbered in the order of the first texts that have it, the empty text first; if it
    is more than most, the error is TooLarge.
    """
    found = [start]
    numbers = {start: 0}
    texts = [""]
    rows = [[0] * size]
    level = [0]
    while level:
        # of texts of one length, those with a lesser first letter come first, then those with lesser letters behind
        longer = []
        for letter in range(size):
            for number in level:
                thing = step(found[number], letter)
                if thing not in numbers:
                    numbers[thing] = len(found)
                    longer.append(len(found))
                    found.append(thing)
                    texts.append(LETTERS[letter] + texts[number])
                    rows.append([0] * size)
                rows[number][letter] = numbers[thing]
                if len(found) > most:
                    raise TooLarge(f"there are more than {most}")
        level = longer
    return found, rows, texts


def ways_behind(rows):
    """Return, for each number of what explored_ahead finds, a list of pairs of a letter and a later number.

    A text with the later number, and with the letter ahead of it, has the first number.
    """
    ways = [[] for _ in rows]
    for later, row in enumerate(rows):
        for letter, number in enumerate(row):
            ways[number].append((letter, later))
    return ways


def first_texts(rows, start=0):
    """Return a dict from all stands that are come to from a start to the first texts that lead there, in order."""
    texts = {start: ""}
    queue = [start]
    at = 0
    while at < len(queue):
        stand = queue[at]
        for letter, later in enumerate(rows[stand]):
            if later not in texts:
                texts[later] = texts[stand] + LETTERS[letter]
                queue.append(later)
        at += 1
    return texts


def texts_behind(rows):
    """Return a dict from all stands to which one letter or more lead from stand 0 to such a text for each."""
    texts = {}
    for letter, stand in enumerate(rows[0]):
        for later, text in first_texts(rows, stand).items():
            texts.setdefault(later, LETTERS[letter] + text)
    return texts


def stand_after(rows, stand, letters):
    """Return the stand to which letters, given by their numbers, lead from a stand."""
    for letter in letters:
        stand = rows[stand][letter]
    return stand


def leading_to(rows, marked):
    """Return for each stand whether one or more letters lead from it to a stand that is marked."""
    leads = [False] * len(rows)
    grows = True
    while grows:
        before = list(leads)
        leads = [any([marked[later] or before[later] for later in row]) for row in rows]
        grows = leads != before
    return leads


def text_by(before, thing):
    """Return the text by which a thing was come to: before has for each thing that ahead of it and the letter, or None.
    """
    letters = []
    while before[thing] is not None:
        thing, letter = before[thing]
        letters.append(LETTERS[letter])
    letters.reverse()
    return "".join(letters)


def heights_of(goals):
    """Return how many letters can be gone on from each goal, without those from which one can go on for ever.

    goals is a dict from goals to lists of pairs of a letter and a goal.
    """
    left = {goal: len(ways) for goal, ways in goals.items()}
    ahead = {goal: [] for goal in goals}
    for goal, ways in goals.items():
        for _, later in ways:
            ahead[later].append(goal)
    heights = {}
    level = [goal for goal in goals if left[goal] == 0]
    height = 0
    while level:
        higher = []
        for goal in level:
            heights[goal] = height
            for before in ahead[goal]:
                left[before] -= 1
                if left[before] == 0:
                    higher.append(before)
        level = higher
        height += 1
    return heights


def least_of(rows, marks):
    """Return the rows and marks, as tuples, with the fewest stands by which each text has the same mark.

    They are numbered in the order of the first texts that lead to them; to each stand a text must lead.
    """
    blocks = _numbered(marks)
    many = 0
    # what is told apart by marks is refined by where letters lead, until nothing more is told apart
    while max(blocks) + 1 > many:
        many = max(blocks) + 1
        blocks = _numbered([(blocks[at], tuple([blocks[later] for later in row])) for at, row in enumerate(rows)])
    likes = {}
    for at, block in enumerate(blocks):
        likes.setdefault(block, at)
    found, least = explored(blocks[0], lambda block, letter: blocks[rows[likes[block]][letter]], len(rows[0]))
    return tuple(least), tuple([marks[likes[block]] for block in found])


def _numbered(keys):
    numbers = {}
    for key in keys:
        numbers.setdefault(key, len(numbers))
    return [numbers[key] for key in keys]
