"""What the document says, done plainly and slowly, for the tests to compare with; and made-up arguments."""

import random
from functools import lru_cache
from itertools import product

from patternways.checks import check_rules
from patternways.errors import BadRules
from patternways.patterns import weight_of

# no integers, texts, tuples of the asked form, or anything else that a function of the package takes
STRANGE = [None, True, False, -1, 10 ** 30, "x", "A", b"a", [], (), {}, [1], (1,), object(), {1: 2}, len, ("a", "b")]


def texts(size, most, least=0):
    """All texts with at most so many letters, in their order."""
    return ["".join(word) for many in range(least, most + 1) for word in product("abc"[:size], repeat=many)]


def _rows(some, others, most):
    return frozenset(x + y for x in some for y in others if len(x) + len(y) <= most)


@lru_cache(maxsize=None)
def words(pattern, most):
    """The words of a pattern with at most so many letters."""
    kind = pattern[0]
    if kind == "none":
        return frozenset()
    if kind == "empty":
        return frozenset([""])
    if kind == "one":
        return frozenset(letter for letter in pattern[1] if most >= 1)
    if kind == "any":
        return frozenset().union(*[words(part, most) for part in pattern[1:]])
    if kind == "group":
        return words(pattern[1], most)
    if kind == "row":
        found = frozenset([""])
        for part in pattern[1:]:
            found = _rows(found, words(part, most), most)
        return found
    _, part, least, limit, _ = pattern
    # more turns than letters and least bring nothing more
    limit = least + most if limit is None else limit
    turn, total = frozenset([""]), set()
    for number in range(limit + 1):
        if number >= least:
            total |= turn
        turn = _rows(turn, words(part, most), most)
    return frozenset(total)


def label(rules, text):
    """The label of a text."""
    for number, (pattern, _) in enumerate(rules[1]):
        if text and text in words(pattern, max(len(text), 8)):
            return number
    return None


def read(rules, text):
    """The pieces of a text."""
    found, first = [], 0
    while first < len(text):
        past = len(text)
        while past > first and label(rules, text[first:past]) is None:
            past -= 1
        found.append((label(rules, text[first:past]), first, past) if past > first else (None, first, first + 1))
        first = found[-1][2]
    return found


def come(rules, text):
    """What comes of a text."""
    out = ""
    for kind, first, past in read(rules, text):
        if kind is None:
            out += text[first:past]
        else:
            put = rules[1][kind][1]
            out += put[1] if put[0] == "word" else put[1] + text[first:past] + put[2]
    return out


def view(table, text):
    """The outlook of a text."""
    rows, labels = table
    found = []
    for stand in range(len(rows)):
        item = None
        for letter in text:
            stand = rows[stand]["abc".index(letter)]
            item = item if labels[stand] is None else labels[stand]
        found.append(item)
    return tuple(found)


def text_spots(rules, table, text):
    """The spots of all places in a text, one by one."""
    found = []
    for _, first, past in read(rules, text):
        stand = 0
        for place in range(first, past):
            found.append((None if place == first else stand, view(table, text[place:])))
            stand = table[0][stand]["abc".index(text[place])]
    return found + [(None, view(table, ""))]


def is_least(rows, marks):
    """Whether no two stands have the same marks for all texts, and they are numbered by their first texts."""
    order, at = [0], 0
    while at < len(order):
        order.extend(later for later in dict.fromkeys(rows[order[at]]) if later not in order)
        at += 1
    if order != list(range(len(rows))):
        return False
    apart = {(one, two) for one in order for two in order if marks[one] != marks[two]}
    while True:
        more = {(one, two) for one in order for two in order if (one, two) not in apart
                and any((x, y) in apart for x, y in zip(rows[one], rows[two]))}
        if not more:
            return len(apart) == len(order) * (len(order) - 1)
        apart |= more


def some_pattern(chance, size, depth):
    """A pattern, perhaps too heavy."""
    dice = chance.random()
    if depth == 0 or dice < 0.3:
        if chance.random() < 0.12:
            return chance.choice([("none",), ("empty",)])
        letters = "".join(letter for letter in "abc"[:size] if chance.random() < 0.5)
        return ("one", letters or chance.choice("abc"[:size]))
    if dice < 0.6:
        return ("row", *[some_pattern(chance, size, depth - 1) for _ in range(chance.randint(2, 4))])
    if dice < 0.75:
        return ("any", *[some_pattern(chance, size, depth - 1) for _ in range(chance.randint(2, 3))])
    if dice < 0.8:
        return ("group", some_pattern(chance, size, depth - 1))
    most = chance.choice([None, None, 1, 2, 3])
    least = chance.randint(0, 3 if most is None else most)
    return ("again", some_pattern(chance, size, depth - 1), least, most, chance.choice(["many", "few"]))


def good_pattern(chance, size):
    """A pattern of a size."""
    while True:
        pattern = some_pattern(chance, size, chance.randint(1, 4))
        if weight_of(size, pattern) is not None:
            return pattern


def some_put(chance, size):
    """A put of a size."""
    parts = ["".join(chance.choice("abc"[:size]) for _ in range(chance.randint(0, 3))) for _ in range(2)]
    return ("word", parts[0]) if chance.random() < 0.5 else ("round", *parts)


def good_rules(chance, size):
    """Rules of a size."""
    while True:
        items = [(good_pattern(chance, size), some_put(chance, size)) for _ in range(chance.randint(1, 4))]
        try:
            check_rules((size, tuple(items)))
        except BadRules:
            continue
        return (size, tuple(items))


def good_table(chance, size, most):
    """A table with at most so many stands, which need not be the least one."""
    while True:
        many = chance.randint(1, most)
        rows = [tuple(chance.randrange(many) for _ in range(size)) for _ in range(many)]
        order = [0]
        for stand in order:
            order.extend(later for later in dict.fromkeys(rows[stand]) if later not in order)
        if len(order) == many:
            return (tuple(rows), tuple(chance.random() < 0.4 for _ in range(many)))


def chances(many, start=0):
    """Sources of made-up arguments, the same ones each time."""
    return [random.Random(start + number) for number in range(many)]


def few_pattern(chance, size):
    """A pattern of some letters in a row, some of them again."""
    parts = []
    for _ in range(chance.randint(1, 4)):
        many = chance.randint(1, size) if chance.random() < 0.4 else 1
        part = ("one", "".join(sorted(chance.sample("abc"[:size], many))))
        dice = chance.random()
        if dice < 0.2:
            part = ("again", part, chance.randint(0, 1), None, "many")
        elif dice < 0.3:
            part = ("again", part, chance.randint(0, 2), chance.randint(2, 3), "few")
        parts.append(part)
    return parts[0] if len(parts) == 1 else ("row", *parts)


def few_rules(chance, size, most=3):
    """Rules of a size with such patterns: less is made up, but more comes about by them."""
    while True:
        items = [(few_pattern(chance, size), some_put(chance, size)) for _ in range(chance.randint(1, most))]
        try:
            check_rules((size, tuple(items)))
        except BadRules:
            continue
        return (size, tuple(items))


def few_row(chance, size, many):
    """A row of so many such rules."""
    return tuple(few_rules(chance, size) for _ in range(many))
