"""Trees of letters, from the left to the right, with the product of all letters of each of them."""

from patternways.kinds import LETTERS


class Tree:
    """A letter, with the trees of what is ahead of it and behind it, or None; it is never changed.

    product tells to which stand all of its letters lead from each stand.
    """

    def __init__(self, rows, left, letter, right):
        self.left = left
        self.letter = letter
        self.right = right
        self.height = max(height_of(left), height_of(right)) + 1
        self.length = length_of(left) + 1 + length_of(right)
        number = LETTERS.index(letter)
        stands = list(range(len(rows))) if left is None else left.product
        later = [rows[stand][number] for stand in stands]
        self.product = tuple(later if right is None else [right.product[stand] for stand in later])


def height_of(tree):
    """Return the height of a tree, or 0 for None."""
    return 0 if tree is None else tree.height


def length_of(tree):
    """Return how many letters a tree has, or 0 for None."""
    return 0 if tree is None else tree.length


def text_of(tree):
    """Return the text of a tree."""
    parts = []
    waiting = [tree]
    while waiting:
        part = waiting.pop()
        if isinstance(part, str):
            parts.append(part)
        elif part is not None:
            waiting.extend([part.right, part.letter, part.left])
    return "".join(parts)


def stand_led_to(rows, tree, first, past, stand):
    """Return the stand to which the letters of a tree from a place on, ahead of another one, lead from a stand."""
    if tree is None or first >= past:
        return stand
    if first <= 0 and past >= tree.length:
        return tree.product[stand]
    place = length_of(tree.left)
    stand = stand_led_to(rows, tree.left, first, min(past, place), stand)
    if first <= place < past:
        stand = rows[stand][LETTERS.index(tree.letter)]
    return stand_led_to(rows, tree.right, max(first - place - 1, 0), past - place - 1, stand)


class Maker:
    """Makes trees for the rows of a table, in which no side is higher by more than one; made counts them.

    For each tree that is made, one product of a stretch is.
    """

    def __init__(self, rows, made):
        self.rows = rows
        self.made = made

    def of_text(self, text):
        """Return a tree of a text."""
        if text == "":
            return None
        place = len(text) // 2
        return self._joined(self.of_text(text[:place]), text[place], self.of_text(text[place + 1:]))

    def with_letter(self, tree, place, letter):
        """Return a tree with a letter put at a place."""
        if tree is None:
            return self._joined(None, letter, None)
        past = length_of(tree.left)
        if place <= past:
            return self._even(self.with_letter(tree.left, place, letter), tree.letter, tree.right)
        return self._even(tree.left, tree.letter, self.with_letter(tree.right, place - past - 1, letter))

    def without_letter(self, tree, place):
        """Return a tree without the letter at a place."""
        past = length_of(tree.left)
        if place < past:
            return self._even(self.without_letter(tree.left, place), tree.letter, tree.right)
        if place > past:
            return self._even(tree.left, tree.letter, self.without_letter(tree.right, place - past - 1))
        if tree.left is None or tree.right is None:
            return tree.right if tree.left is None else tree.left
        return self._even(tree.left, _first_letter(tree.right), self.without_letter(tree.right, 0))

    def _joined(self, left, letter, right):
        self.made += 1
        return Tree(self.rows, left, letter, right)

    def _even(self, left, letter, right):
        """Return a tree of two trees, of which one may be higher by two, and of the letter between them."""
        if height_of(left) > height_of(right) + 1:
            inner = left.right
            if height_of(left.left) >= height_of(inner):
                return self._joined(left.left, left.letter, self._joined(inner, letter, right))
            return self._joined(self._joined(left.left, left.letter, inner.left), inner.letter,
                              self._joined(inner.right, letter, right))
        if height_of(right) > height_of(left) + 1:
            inner = right.left
            if height_of(right.right) >= height_of(inner):
                return self._joined(self._joined(left, letter, inner), right.letter, right.right)
            return self._joined(self._joined(left, letter, inner.left), inner.letter,
                              self._joined(inner.right, right.letter, right.right))
        return self._joined(left, letter, right)


def _first_letter(tree):
    while tree.left is not None:
        tree = tree.left
    return tree.letter
