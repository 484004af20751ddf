"""[2] Patterns: their words, their forms, their parts and weights."""

import unittest

from patternways.errors import BadPattern, BadSize, TooLarge
from patternways.tables import is_word, table_of
from tests.brute import chances, good_pattern, texts, words
from tests.case import FORTY, MORE_THAN_FORTY, Case

A = ("one", "a")
LONGEST = {1: 10, 2: 7, 3: 5}


def has(size, pattern, most):
    """The words of a pattern with at most so many letters, by its table."""
    table = table_of(size, pattern)
    return [text for text in texts(size, most) if is_word(table, text)]


class Words(Case):
    def test_each_kind(self):
        for size, pattern, expected in [
                (1, ("none",), []), (1, ("empty",), [""]), (3, ("one", "ac"), ["a", "c"]), (2, ("one", "ab"), ["a", "b"]),
                (2, ("row", ("one", "ab"), A), ["aa", "ba"]), (2, ("row", A, ("empty",), ("one", "b")), ["ab"]),
                (2, ("row", A, ("none",)), []), (2, ("row", A, A, A, ("one", "b")), ["aaab"]),
                (2, ("any", ("none",), A, ("empty",), ("one", "b")), ["", "a", "b"]), (1, ("group", A), ["a"]),
                (1, ("again", A, 2, 3, "many"), ["aa", "aaa"]), (1, ("again", A, 0, 1, "few"), ["", "a"]),
                (1, ("again", A, 3, 3, "few"), ["aaa"]), (1, ("again", A, 3, None, "few"), ["aaa", "aaaa", "aaaaa"]),
                (1, ("again", A, 0, None, "many"), ["", "a", "aa", "aaa", "aaaa", "aaaaa"]),
                (1, ("again", ("none",), 0, None, "many"), [""]), (1, ("again", ("none",), 1, None, "many"), []),
                (1, ("again", ("empty",), 3, None, "many"), [""]),
                (1, ("again", ("any", ("empty",), A), 3, 3, "many"), ["", "a", "aa", "aaa"]),
                (2, ("again", ("row", A, ("one", "b")), 1, None, "many"), ["ab", "abab"])]:
            with self.subTest(pattern=pattern):
                self.assertEqual(has(size, pattern, 5), expected)

    def test_ways_make_no_difference(self):
        for least, most in [(0, None), (1, 2), (3, None)]:
            many, few = [table_of(2, ("again", A, least, most, way)) for way in ("many", "few")]
            self.assertEqual(many, few)

    def test_made_up_patterns(self):
        for chance in chances(150):
            size = chance.choice([1, 2, 2, 3])
            pattern = good_pattern(chance, size)
            with self.subTest(pattern=pattern):
                self.assertEqual(frozenset(has(size, pattern, LONGEST[size])), words(pattern, LONGEST[size]))


class Forms(Case):
    def test_sizes(self):
        for size in (1, 2, 3):
            table_of(size, A)
        for size in [0, 4, -1, 10 ** 20, True, False, None, "1", (1,), [2], {}]:
            self.refuses(BadSize, table_of, size, A)

    def test_what_is_no_pattern(self):
        self.refuses_strange(BadPattern, lambda value: table_of(2, value))
        self.refuses_strange(BadPattern, lambda value: table_of(2, ("one", value)))
        self.refuses_strange(BadPattern, lambda value: table_of(2, ("row", A, value)))
        self.refuses_strange(BadPattern, lambda value: table_of(2, ("group", value)))
        self.refuses_strange(BadPattern, lambda value: table_of(2, ("again", A, value, 3, "many")))
        self.refuses_strange(BadPattern, lambda value: table_of(2, ("again", A, 1, value, "many")), [None])
        self.refuses_strange(BadPattern, lambda value: table_of(2, ("again", A, 1, 2, value)))
        self.refuses_strange(BadPattern, lambda value: table_of(2, (value, A, A)))

    def test_wrong_forms(self):
        for pattern in [
                ["none"], "none", ("none", A), ("empty", ""), ("one",), ("one", ""), ("one", "ba"), ("one", "aa"),
                ("one", "c"), ("one", "abc"), ("one", ["a"]), ("one", ("a",)), ("one", "a", "b"), ("row",), ("row", A),
                ("row", A, A, A, A, A), ("row", [A, A]), ("row", A, ["one", "a"]), ("any", A), ("any", A, A, A, A, A),
                ("group",), ("group", A, 0), ("group", A, A), ("again", A, 1, 2), ("again", A, 1, 2, "many", 1),
                ("again", A, 4, None, "many"), ("again", A, 0, 0, "many"), ("again", A, 2, 1, "many"),
                ("again", A, 0, 4, "many"), ("again", A, -1, 1, "many"), ("again", A, 1, 2, "most"),
                ("again", A, True, 2, "many"), ("again", A, False, 2, "many"), ("again", A, 0, True, "many"),
                ("again", A, None, 2, "many"), ("every", A, A), ("none", ("none",)), ("One", "a")]:
            with self.subTest(pattern=pattern):
                self.refuses(BadPattern, table_of, 2, pattern)

    def test_letters_of_the_size(self):
        table_of(3, ("one", "abc"))
        self.refuses(BadPattern, table_of, 2, ("one", "c"))
        self.refuses(BadPattern, table_of, 1, ("one", "b"))
        self.refuses(BadPattern, table_of, 1, ("row", A, ("one", "b")))

    def test_at_most_twelve_parts(self):
        twelve = ("none",)
        for _ in range(11):
            twelve = ("group", twelve)
        self.assertEqual(table_of(1, twelve), (((0,),), (False,)))
        self.refuses(BadPattern, table_of, 1, ("group", twelve))
        three = ("row", ("none",), ("none",), ("none",))
        self.assertEqual(table_of(1, ("any", three, three, ("row", ("none",), ("none",)))), (((0,),), (False,)))
        self.refuses(BadPattern, table_of, 1, ("any", three, three, three))

    def test_endless_nesting_is_refused(self):
        deep = A
        for _ in range(100000):
            deep = ("group", deep)
        self.refuses(BadPattern, table_of, 1, deep)
        ring = ["group"]
        ring.append(ring)
        self.refuses(BadPattern, table_of, 1, ("group", ring))

    def test_weights_of_eight_and_nine(self):
        four = ("again", A, 3, None, "many")
        eights = [("row", four, four), ("again", four, 0, 2, "few"), ("again", four, 1, None, "few"),
                  ("any", four, ("row", A, A, A, ("empty",))), ("again", ("row", A, A), 3, None, "many"),
                  ("again", ("again", ("again", A, 0, 2, "many"), 1, None, "few"), 2, 2, "few"),
                  ("row", ("again", ("any", A, ("empty",)), 1, 3, "few"), ("row", A, ("group", ("one", "a"))))]
        for pattern in eights:
            with self.subTest(pattern=pattern):
                table_of(1, pattern)
                table_of(1, ("row", pattern, ("none",)))
                self.refuses(BadPattern, table_of, 1, ("row", pattern, A))
                self.refuses(BadPattern, table_of, 1, ("any", pattern, ("empty",)))
                self.refuses(BadPattern, table_of, 1, ("row", ("group", pattern), ("group", A)))
        three = ("row", A, A, A)
        self.refuses(BadPattern, table_of, 1, ("again", three, 2, None, "many"))
        self.refuses(BadPattern, table_of, 1, ("again", three, 0, 3, "many"))
        table_of(1, ("again", three, 1, None, "many"))
        table_of(1, ("again", three, 0, 2, "many"))

    def test_size_is_refused_first(self):
        self.refuses(BadSize, table_of, 0, ("one", "c"))
        self.refuses(BadSize, table_of, True, None)
        self.refuses(BadPattern, table_of, 2, ("row", MORE_THAN_FORTY[1], A))

    def test_forty_stands_and_more(self):
        self.assertEqual(len(table_of(*FORTY)[0]), 40)
        self.refuses(TooLarge, table_of, *MORE_THAN_FORTY)


if __name__ == "__main__":
    unittest.main()
