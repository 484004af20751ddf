"""Tables that are learnt from what a function answers, and how many answers are enough for a table."""

from patternways.checks import check_size, check_table, is_table, table_size
from patternways.errors import BadNumber, TooLarge
from patternways.kinds import LETTERS, is_between, is_integer, letter_numbers
from patternways.machines import stand_after

MOST_STANDS_LEARNT = 4
MOST_PRODUCT = 6


class Enough:
    """The least number of first texts that are enough for a table, and a table that shows that no less is enough."""

    def __init__(self, number, other):
        self.number = number
        self.other = other

    def __eq__(self, other):
        return isinstance(other, Enough) and self.number == other.number and self.other == other.other

    def shows(self, table, most):
        """Return whether this is as described for a table and a most number of stands."""
        _check_limits(table, most)
        if not is_integer(self.number) or not _is_small_table(self.other, table_size(table), most):
            return False
        number, _ = _last_difference(table, most)
        return self.number == number + 1 and _difference(table, self.other) == number


def learn(size, ask, most):
    """Return the least table, with at most so many stands, that answers as a function does; None if there is none."""
    check_size(size)
    _check_most(most)
    answers = {}
    for text in _texts(size, 2 * most - 2):
        answers[text] = ask(text)
    table = _likely_table(size, answers, most)
    return table if table is not None and _answers_likewise(table, answers) else None


def judge_enough(table, most):
    """Return an Enough for a table and a most number of stands."""
    _check_limits(table, most)
    number, other = _last_difference(table, most)
    return Enough(number + 1, other)


def enough(table, most):
    """Return how many first texts are enough for a table and a most number of stands."""
    return judge_enough(table, most).number


def _check_most(most):
    if not is_between(most, 1, MOST_STANDS_LEARNT):
        raise BadNumber("a most number of stands is an integer from 1 to 4")


def _check_limits(table, most):
    check_table(table)
    _check_most(most)
    if table_size(table) * most > MOST_PRODUCT:
        raise TooLarge("the size times the most number of stands is more than 6")


def _texts(size, most):
    """Return all texts with at most so many letters, in their order."""
    found = []
    level = [""]
    for _ in range(most + 1):
        found.extend(level)
        level = [text + letter for text in level for letter in LETTERS[:size]]
    return found


def _likely_table(size, answers, most):
    """Return the only table with at most so many stands that can answer so, None if more stands are needed."""
    # two of so few stands are told apart by some text with at most most - 2 letters; one stand needs none
    tails = _texts(size, most - 2)
    firsts = [""]
    numbers = {_answers_behind("", tails, answers): 0}
    rows = []
    while len(rows) < len(firsts) <= most:
        row = []
        for letter in LETTERS[:size]:
            text = firsts[len(rows)] + letter
            seen = _answers_behind(text, tails, answers)
            if seen not in numbers:
                numbers[seen] = len(firsts)
                firsts.append(text)
            row.append(numbers[seen])
        rows.append(tuple(row))
    if len(firsts) > most:
        return None
    return tuple(rows), tuple([answers[text] for text in firsts])


def _answers_behind(text, tails, answers):
    return tuple([answers[text + tail] for tail in tails])


def _answers_likewise(table, answers):
    rows, ends = table
    return all([ends[stand_after(rows, 0, letter_numbers(text))] == answer for text, answer in answers.items()])


def _last_difference(table, most):
    """Return the greatest index of a first text that tells a table with at most so many stands from this one, and such
    a table."""
    last, found = -1, None
    for rows in _all_rows(table_size(table), most):
        for mask in range(1 << len(rows)):
            other = (rows, tuple([(mask >> stand) & 1 == 1 for stand in range(len(rows))]))
            index = _difference(table, other)
            if index is not None and index > last:
                last, found = index, other
    return last, found


def _difference(one, other):
    """Return the index of the first text that is a word of just one of two tables, None if there is none."""
    size = table_size(one)
    indices = {(0, 0): 0}
    queue = [(0, 0)]
    at = 0
    while at < len(queue):
        first, second = queue[at]
        index = indices[queue[at]]
        if one[1][first] != other[1][second]:
            return index
        for letter in range(size):
            later = (one[0][first][letter], other[0][second][letter])
            if later not in indices:
                # ahead of a text with a letter more are the empty one, and those of all lesser texts with a letter
                indices[later] = size * index + 1 + letter
                queue.append(later)
        at += 1
    return None


def _all_rows(size, most):
    """Return the rows of all tables with at most so many stands, numbered in the order of their first texts."""
    found = []
    waiting = [()]
    while waiting:
        targets = waiting.pop()
        stands = max([0, *targets]) + 1
        if len(targets) == stands * size:
            found.append(tuple([targets[size * stand:size * (stand + 1)] for stand in range(stands)]))
        else:
            waiting.extend([(*targets, target) for target in range(min(stands + 1, most))])
    return found


def _is_small_table(value, size, most):
    return is_table(value) and table_size(value) == size and len(value[0]) <= most
