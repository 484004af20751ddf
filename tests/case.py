"""What the test cases share."""

import unittest

from tests.brute import STRANGE

EVEN = (((1, 0), (0, 1)), (True, False))
ALL = (((0, 0),), (True,))
NOTHING = (((0, 0),), (False,))
ONE_LETTER = (((0,),), (True,))
DOC_RULES = (2, ((("row", ("one", "a"), ("one", "a"), ("one", "b")), ("word", "")),
                 (("one", "b"), ("round", "a", "b"))))
FAR_RULES = (2, ((("row", ("one", "a"), ("again", ("one", "a"), 0, None, "many"), ("one", "b")), ("word", "")),))
NO_RULES = (2, ((("none",), ("word", "")),))
TWOS = (1, ((("row", ("one", "a"), ("one", "a")), ("word", "a")),))

# least tables of a pattern, and of rules, of exactly 40 stands and of 41
FORTY = (3, ("row", ("again", ("one", "ab"), 0, None, "few"), ("one", "b"), ("again", ("one", "abc"), 3, 3, "few"),
             ("any", ("one", "c"), ("one", "a"))))
MORE_THAN_FORTY = (3, ("row", ("row", ("again", ("one", "ac"), 1, None, "many"),
                               ("row", ("one", "ab"), ("one", "abc"), ("one", "abc"))), ("one", "ab"), ("one", "b")))
FORTY_RULES = (3, ((("one", "b"), ("round", "cc", "aaa")),
                   (("row", ("again", ("one", "ab"), 0, None, "many"), ("again", ("one", "bc"), 1, 1, "few"),
                     ("again", ("one", "b"), 2, None, "few"), ("row", ("one", "abc"), ("one", "ab"), ("one", "abc"))),
                    ("round", "", "a")),
                   (("one", "ac"), ("word", "ca"))))
MORE_RULES = (2, ((("again", ("row", ("again", ("one", "a"), 2, 2, "few"), ("one", "a"),
                              ("any", ("none",), ("one", "ab"), ("one", "a")),
                              ("again", ("one", "ab"), 2, 3, "few")), 0, None, "many"), ("word", "a")),))
# rules with exactly 200 spots, and with 201
SPOTS_200 = (3, ((("again", ("one", "c"), 3, None, "few"), ("word", "bb")),
                 (("again", ("again", ("one", "ac"), 3, 3, "few"), 1, 2, "many"), ("word", "c"))))
SPOTS_201 = (3, ((("row", ("again", ("one", "c"), 0, 3, "many"),
                   ("row", ("one", "bc"), ("one", "ac"), ("one", "c"), ("one", "abc")), ("one", "c")),
                  ("round", "ab", "b")),))


class Case(unittest.TestCase):
    """A test case that can ask for refusals."""

    def refuses(self, error, function, *given):
        """The call is refused with just this error, which is returned."""
        with self.assertRaises(error) as held:
            function(*given)
        self.assertIs(type(held.exception), error)
        return held.exception

    def refuses_strange(self, error, function, allowed=()):
        """Each strange value, but for those allowed, is refused with this error by a function of one argument."""
        for value in STRANGE:
            if any(value is given for given in allowed):
                continue
            with self.subTest(value=repr(value)):
                self.refuses(error, function, value)

    def shows_only_as_made(self, evidence, given, changes):
        """Evidence shows, and no longer if one attribute is another: changes has lists of others for each."""
        self.assertIs(evidence.shows(*given), True)
        self.assertEqual(sorted(changes), sorted(vars(evidence)))
        for name, others in changes.items():
            kept = getattr(evidence, name)
            for other in others:
                with self.subTest(name=name, other=other):
                    setattr(evidence, name, other)
                    self.assertIs(evidence.shows(*given), False)
            setattr(evidence, name, kept)
        self.assertIs(evidence.shows(*given), True)
