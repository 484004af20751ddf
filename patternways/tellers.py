"""The teller of a row with the fewest stands, and texts that show that no fewer are enough."""

from patternways.courses import common_beginning, parted
from patternways.futures import Futures
from patternways.kinds import LETTERS
from patternways.machines import least_of
from patternways.pairs import starts_of


class Families:
    """What is known behind a text: for each rest the standing, and what has come and what was told, parted.

    found is a list of all that comes about; rows tells to which of it letters lead, texts what is told by them.
    """

    def __init__(self, rests):
        self.rests = rests
        start = rests.start(0)
        many = range(len(rests.texts))
        self.futures = Futures(rests, starts_of(rests))
        self.found = [tuple([(start, "", "") for _ in many])]
        self.rows = []
        self.texts = []
        numbers = {self.found[0]: 0}
        while len(self.rows) < len(self.found):
            row = []
            told = []
            for letter in range(rests.size):
                later, text = self._behind(self.found[len(self.rows)], letter)
                if later not in numbers:
                    numbers[later] = len(self.found)
                    self.found.append(later)
                row.append(numbers[later])
                told.append(text)
            self.rows.append(tuple(row))
            self.texts.append(tuple(told))

    def _behind(self, family, letter):
        """Return what is known behind a letter, and what is told by it: what is sure now, and was not before."""
        steps = []
        told = None
        for rest, row in enumerate(self.rests.rows):
            standing, come, ahead = family[row[letter]]
            behind, text = self.rests.stepped(0, standing, letter, rest)
            steps.append((behind, come + text, ahead))
            # what was told ahead of what has come is a part of what is sure to come
            sure = (come + text + self.futures.sure[(rest, behind)])[len(ahead):]
            told = sure if told is None else common_beginning(told, sure)
        return tuple([_member(behind, come, ahead + told) for behind, come, ahead in steps]), told


def _member(standing, come, ahead):
    one, other = parted(come, ahead)
    return standing, one, other


class Machine:
    """A teller with the fewest stands: rows, what is told by letters, and what is told at the end."""

    def __init__(self, rests):
        families = Families(rests)
        # with nothing behind, what has come and was not told is what is left to tell
        marks = [(family[0][1], texts) for family, texts in zip(families.found, families.texts)]
        self.size = rests.size
        self.rows, marks = least_of(families.rows, marks)
        self.ends = [end for end, _ in marks]
        self.texts = [texts for _, texts in marks]

    def find_moves(self):
        """Return a dict from all pairs of a stand and a letter to pairs of a stand and a text."""
        return {(stand, LETTERS[letter]): (self.rows[stand][letter], self.texts[stand][letter])
                for stand in range(len(self.rows)) for letter in range(self.size)}

    def find_forks(self):
        """Return, for each stand, a pair of texts of which it tells texts that do not begin with the same letter."""
        known = [{end[:1]: ""} for end in self.ends]
        changed = True
        while changed:
            changed = False
            for stand, row in enumerate(self.rows):
                for letter, later in enumerate(row):
                    if self._note(known, stand, letter, later):
                        changed = True
        found = []
        for begins in known:
            # a text of which nothing is told begins like no other one, also not like itself
            texts = [begins[""], begins[""]] if "" in begins else list(begins.values())
            found.append((texts[0], texts[1]))
        return found

    def _note(self, known, stand, letter, later):
        """Note with which letters it can begin what is told from a stand by a letter; return whether one is new."""
        text = self.texts[stand][letter]
        begins = {text[0]: ""} if text != "" else dict(known[later])
        found = False
        for begin, rest in begins.items():
            if begin not in known[stand]:
                known[stand][begin] = LETTERS[letter] + rest
                found = True
        return found

    def find_partings(self):
        """Return a dict from all pairs of two stands, the lesser one first, to a text of which both tell another."""
        forks = self.find_forks()
        found = {}
        stands = range(len(self.rows))
        waiting = [(one, other) for one in stands for other in stands if one < other]
        while waiting:
            texts = {pair: self._parting(pair, found, forks) for pair in waiting}
            for pair in waiting:
                if texts[pair] is not None:
                    found[pair] = texts[pair]
            waiting = [pair for pair in waiting if texts[pair] is None]
        return found

    def _parting(self, pair, found, forks):
        """Return a text for a pair of stands, None if it needs one of a pair for which none is found yet."""
        one, other = pair
        if self.ends[one] != self.ends[other]:
            return ""
        for letter in range(self.size):
            text = self._parting_by(pair, letter, found, forks)
            if text is not None:
                return LETTERS[letter] + text
        return None

    def _parting_by(self, pair, letter, found, forks):
        one, other = pair
        first, second = parted(self.texts[one][letter], self.texts[other][letter])
        targets = (self.rows[one][letter], self.rows[other][letter])
        if first == "" and second == "":
            return found.get((min(targets), max(targets)))
        if first != "" and second != "":
            return ""
        # what is told from the one's target is to begin in another way than what was told more of the other
        target = targets[0] if first == "" else targets[1]
        for text in forks[target]:
            if self.told(target, text)[:1] != (first + second)[0]:
                return text
        return None

    def told(self, stand, text):
        """Return what is told of a text from a stand."""
        parts = []
        for letter in text:
            number = LETTERS.index(letter)
            parts.append(self.texts[stand][number])
            stand = self.rows[stand][number]
        return "".join(parts) + self.ends[stand]
