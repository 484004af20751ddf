"""Products: to which stands a text leads from all stands of a table, and whether a table counts."""

from patternways.checks import check_table, check_text, table_size
from patternways.kinds import copied_list, is_between, is_integer, is_text, letter_numbers
from patternways.machines import explored, first_texts, stand_after

MOST_PRODUCTS = 150


class Counting:
    """A text that leads some stands of a table around."""

    def __init__(self, text, stands):
        self.text = text
        self.stands = copied_list(stands)

    def __eq__(self, other):
        return isinstance(other, Counting) and self.text == other.text and self.stands == other.stands

    def shows(self, table):
        """Return whether this is as described for a table."""
        found, _ = _products_of(table)
        if not is_text(table_size(table), self.text) or not _are_stands(self.stands, len(found[0])):
            return False
        later = _product_of(table, self.text)
        return [later[stand] for stand in self.stands] == self.stands[1:] + self.stands[:1]


class Steady:
    """How many copies of each text do the same as one copy more, and texts that show that it is so."""

    def __init__(self, number, texts, text):
        self.number = number
        self.texts = copied_list(texts)
        self.text = text

    def __eq__(self, other):
        return (isinstance(other, Steady) and self.number == other.number and self.texts == other.texts
                and self.text == other.text)

    def shows(self, table):
        """Return whether this is as described for a table."""
        found, _ = _products_of(table)
        heights = [_height(later) for later in found]
        if None in heights or not is_integer(self.number) or self.number != max(heights):
            return False
        size = table_size(table)
        if not isinstance(self.texts, list) or not all([is_text(size, text) for text in self.texts]):
            return False
        # with the empty one, and all to which letters lead, texts have all products
        known = {_product_of(table, text): True for text in self.texts}
        if "" not in self.texts or len(known) != len(found):
            return False
        if self.number == 0:
            return self.text is None
        return is_text(size, self.text) and _height(_product_of(table, self.text)) == self.number


def products(table):
    """Return a dict from all products of a table to their first texts, in the order of these."""
    found, rows = _products_of(table)
    return {found[number]: text for number, text in first_texts(rows).items()}


def product(table, text):
    """Return the product of a text for a table."""
    check_table(table)
    check_text(table_size(table), text)
    return _product_of(table, text)


def counting(table):
    """Return a Counting or a Steady for a table."""
    texts = products(table)
    best = None
    for later in texts:
        height = _height(later)
        if height is None:
            return Counting(texts[later], _ring(later))
        if best is None or height > _height(best):
            best = later
    number = _height(best)
    return Steady(number, [texts[later] for later in texts], None if number == 0 else texts[best])


def _products_of(table):
    """Return all products of a table, and for each of them to which ones letters lead."""
    check_table(table)
    rows, _ = table
    return explored(tuple(range(len(rows))), lambda later, letter: tuple([rows[stand][letter] for stand in later]),
                    table_size(table), MOST_PRODUCTS)


def _product_of(table, text):
    rows, _ = table
    letters = letter_numbers(text)
    return tuple([stand_after(rows, stand, letters) for stand in range(len(rows))])


def _are_stands(stands, many):
    """Return whether something is a list of at least two different stands."""
    if not isinstance(stands, list) or len(stands) < 2 or not all([is_between(stand, 0, many - 1) for stand in stands]):
        return False
    return len({stand: True for stand in stands}) == len(stands)


def _height(later):
    """Return how many copies do the same as one more, as few as can be; None if no number of copies does."""
    stands = list(range(len(later)))
    # behind fewer copies than there are stands, each stand is where it is led around, or where it stays
    for height in range(len(later)):
        behind = [later[stand] for stand in stands]
        if behind == stands:
            return height
        stands = behind
    return None


def _ring(later):
    """Return a list of at least two stands that are led around."""
    for start in range(len(later)):
        ring = [start]
        while later[ring[-1]] not in ring:
            ring.append(later[ring[-1]])
        if len(ring) > 1 and later[ring[-1]] == start:
            return ring
    return None
