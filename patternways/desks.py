"""Desks: rules and a text that are changed step by step, with a journal, and with attempts that may fail."""

from patternways.checks import check_text
from patternways.errors import NothingDone, Unequal
from patternways.outlooks import pieces_of
from patternways.puts import put_along
from patternways.readings import edited
from patternways.rules import table_of_rules


class Desk:
    """Rules, a text, and what was done to them."""

    def __init__(self, rules, text):
        table_of_rules(rules)
        check_text(rules[0], text)
        self.rules = rules
        self.text = text
        # triples of what the journal has, and of the rules and the text before; such a list is never changed, so that
        # an attempt can go back to one
        self._steps = []
        # how many of them cannot be undone in the attempt that is under way
        self._fixed = 0

    def journal(self):
        """Return the list of what was done."""
        return [deed for deed, _, _ in self._steps]

    def pieces(self):
        """Return the list of the pieces of the text."""
        return pieces_of(table_of_rules(self.rules), self.text)

    def comes(self):
        """Return what comes of the text."""
        return "".join(put_along(self.rules, table_of_rules(self.rules), self.text))

    def edit(self, change):
        """Do an edit; return how many first pieces stay, the pieces behind them, and how many last ones stay."""
        found = edited(self.rules, self.text, change)
        place, gone, put = change
        self._do(("edit", place, gone, put), self.rules, self.text[:place] + put + self.text[place + gone:])
        return found

    def exchange(self, rules):
        """Take other rules."""
        table_of_rules(rules)
        if rules[0] != self.rules[0]:
            raise Unequal("the rules are of another size")
        self._do(("rules", rules), rules, self.text)

    def apply(self):
        """Put what comes of the text in its place, and return it."""
        self._do(("apply",), self.rules, self.comes())
        return self.text

    def undo(self):
        """Take back the last thing in the journal, and return it."""
        if len(self._steps) <= self._fixed:
            raise NothingDone("there is nothing to take back")
        deed, self.rules, self.text = self._steps[-1]
        self._steps = self._steps[:-1]
        return deed

    def branch(self):
        """Return an independent desk on which everything is the same, in no attempt."""
        other = Desk(self.rules, self.text)
        other._steps = self._steps
        return other

    def attempt(self, work):
        """Call a function with the desk, and return what it returns; if an error leaves it, take back what it did."""
        rules, text, steps, fixed = self.rules, self.text, self._steps, self._fixed
        self._fixed = len(steps)
        ended = None
        try:
            answer = work(self)
            ended = "well"
        finally:
            if ended is None:
                self.rules = rules
                self.text = text
                self._steps = steps
            self._fixed = fixed
        return answer

    def _do(self, deed, rules, text):
        self._steps = [*self._steps, (deed, self.rules, self.text)]
        self.rules = rules
        self.text = text
