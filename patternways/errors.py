"""The errors that the package raises."""


class WayError(ValueError):
    """What all errors of this package are."""


class BadSize(WayError):
    """Something is no size."""


class BadPattern(WayError):
    """Something is no pattern of the size."""


class BadText(WayError):
    """Something is no text of the letters of the size."""


class BadTable(WayError):
    """Something is no table with at most 40 stands."""


class BadNumber(WayError):
    """A number is none, or is beyond its limits."""


class BadIndex(WayError):
    """There is no word with such an index."""


class NoWord(WayError):
    """A text is no word of the table."""


class BadRules(WayError):
    """Something is no rules; index tells the first bad item, None if it is not even of their form."""

    def __init__(self, index):
        super().__init__("these are no rules")
        self.index = index


class TooLarge(WayError):
    """More would come about than a limit allows."""


class BadEdit(WayError):
    """Something is no edit of the text."""


class BadKind(WayError):
    """Something is neither None nor the number of a rule."""


class BadPieces(WayError):
    """Something is no list of pieces; index tells the first bad item, None if it is no list at all."""

    def __init__(self, index):
        super().__init__("these are no pieces that can be read")
        self.index = index


class BadRow(WayError):
    """Something is no row of rules."""


class Unequal(WayError):
    """Two things that should fit each other do not."""


class BadPlace(WayError):
    """Something is no place of the text."""


class BadStand(WayError):
    """Something is no stand of the table."""


class TooMany(WayError):
    """There are more stops than a limit allows."""


class NothingDone(WayError):
    """There is nothing to take back."""


class BadLines(WayError):
    """A text is not as rules or tables are written; row tells the first bad line, None if there are no lines."""

    def __init__(self, row):
        super().__init__("these lines can not be read")
        self.row = row
