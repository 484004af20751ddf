"""Rules and tables as lines, and read from lines."""

from patternways.checks import MOST_STANDS, are_rules, check_rules, check_table, is_table, table_size
from patternways.errors import BadLines
from patternways.kinds import LETTERS
from patternways.patterns import MOST_IN_ROW, MOST_PARTS, MOST_TURNS, inner_patterns

NOTHING = "-"


def rules_lines(rules):
    """Return the lines of rules, as one string."""
    check_rules(rules)
    size, items = rules
    lines = [_size_line(size)]
    for pattern, put in items:
        lines.append(_find_line(pattern))
        lines.append(_put_line(put))
    return _joined(lines)


def table_lines(table):
    """Return the lines of a table, as one string."""
    check_table(table)
    rows, ends = table
    return _joined([_size_line(table_size(table))] + [_stand_line(row, end) for row, end in zip(rows, ends)])


def rules_from(text):
    """Return the rules for which lines are written."""
    lines = _lines_of(text)
    size = _size_from(lines[0])
    if size is None:
        raise BadLines(0)
    items = []
    for index, line in enumerate(lines[1:]):
        # until its put is read, a rule has one that could follow
        items = _with_find(items, line) if index & 1 == 0 else _with_put(items, line)
        if not are_rules((size, tuple(items))):
            raise BadLines(index + 1)
    if items == [] or len(lines) != 2 * len(items) + 1:
        raise BadLines(len(lines))
    return size, tuple(items)


def table_from(text):
    """Return the table for which lines are written."""
    lines = _lines_of(text)
    size = _size_from(lines[0])
    if size is None:
        raise BadLines(0)
    rows = []
    ends = []
    for index, line in enumerate(lines[1:]):
        stand = _stand_from(line, size)
        if stand is None:
            raise BadLines(index + 1)
        rows.append(stand[0])
        ends.append(stand[1])
    table = (tuple(rows), tuple(ends))
    if not is_table(table):
        raise BadLines(len(lines))
    return table


def _joined(lines):
    return "".join([line + "\n" for line in lines])


def _lines_of(text):
    if not isinstance(text, str) or not text.endswith("\n"):
        raise BadLines(None)
    return text[:-1].split("\n")


def _size_line(size):
    return f"size {size}"


def _find_line(pattern):
    return " ".join(["find"] + _pattern_words(pattern))


def _put_line(put):
    return " ".join(["put", put[0]] + [NOTHING if text == "" else text for text in put[1:]])


def _stand_line(row, end):
    return " ".join(["stand", "end" if end else "on"] + [str(stand) for stand in row])


def _pattern_words(pattern):
    words = [pattern[0]]
    inner = inner_patterns(pattern)
    if pattern[0] == "one":
        words.append(pattern[1])
    elif pattern[0] in ("row", "any"):
        words.append(str(len(inner)))
    elif pattern[0] == "again":
        _, _, least, most, way = pattern
        words.extend([str(least), NOTHING if most is None else str(most), way])
    for part in inner:
        words.extend(_pattern_words(part))
    return words


def _size_from(line):
    for size in range(1, len(LETTERS) + 1):
        if line == _size_line(size):
            return size
    return None


def _with_find(items, line):
    """Return items with one more, of the pattern in a line; with one that is none if there is no pattern in it."""
    words = line.split(" ")
    pattern, past = _pattern_at(words, 1, MOST_PARTS)
    if words[0] != "find" or past != len(words):
        return [*items, None]
    return [*items, (pattern, ("word", ""))]


def _with_put(items, line):
    """Return items of which the last one has the put in a line, or what is no put."""
    words = line.split(" ")
    pattern, _ = items[-1]
    texts = [_text_of(word) for word in words[2:]]
    put = (words[1], *texts) if words[0] == "put" and len(words) > 1 else None
    return [*items[:-1], (pattern, put)]


def _pattern_at(words, at, deep):
    """Return what is written as a pattern from a place in words on, and the place behind it.

    It need not be a pattern, where words are wrong or missing, or where it is nested too deep.
    """
    word = _word_at(words, at)
    if deep == 0:
        return None, at
    if word == "one":
        return (word, _word_at(words, at + 1)), at + 2
    if word in ("row", "any"):
        parts, past = _patterns_at(words, at + 2, _number_of(_word_at(words, at + 1), MOST_IN_ROW), deep)
        return (word, *parts), past
    if word == "group":
        parts, past = _patterns_at(words, at + 1, 1, deep)
        return (word, *parts), past
    if word == "again":
        least, most, way = [_word_at(words, at + place) for place in (1, 2, 3)]
        parts, past = _patterns_at(words, at + 4, 1, deep)
        limit = None if most == NOTHING else _number_of(most, MOST_TURNS)
        return (word, *parts, _number_of(least, MOST_TURNS), limit, way), past
    return (word,), at + 1


def _patterns_at(words, at, many, deep):
    parts = []
    for _ in range(many):
        part, at = _pattern_at(words, at, deep - 1)
        parts.append(part)
    return parts, at


def _word_at(words, at):
    return words[at] if at < len(words) else ""


def _text_of(word):
    """Return the text for which a word is written, None for the empty word, which is written for none."""
    if word == "":
        return None
    return "" if word == NOTHING else word


def _number_of(word, most):
    """Return the number for which a word is written, -1 if it is none from 0 to most."""
    for number in range(most + 1):
        if word == str(number):
            return number
    return -1


def _stand_from(line, size):
    """Return the row and the end of the stand for which a line is written, None if it is not written for one."""
    words = line.split(" ")
    if len(words) != size + 2 or words[0] != "stand" or words[1] not in ("end", "on"):
        return None
    row = tuple([_number_of(word, MOST_STANDS - 1) for word in words[2:]])
    return None if -1 in row else (row, words[1] == "end")
