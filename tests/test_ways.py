"""[21] Ways."""

import unittest

from patternways.errors import BadPattern, BadSize, BadText, TooMany
from patternways.tables import is_word, table_of
from patternways.ways import first_way, stops, ways
from tests.brute import chances, good_pattern, texts
from tests.brute_ways import first_of, good_grouped, stops_along, ways_of
from tests.case import Case

A, B, AB = ("one", "a"), ("one", "b"), ("one", "ab")
MANY, FEW = ("again", A, 0, None, "many"), ("again", A, 0, None, "few")
EMPTY, NONE = ("empty",), ("none",)
FUNCTIONS = (stops, first_way, ways)
# just 300 stops behind 99 letters, and just 301 behind 149
JUST_300 = ("row", ("group", MANY), FEW, A)
JUST_301 = ("row", ("group", MANY), FEW)


def group(pattern):
    """A group."""
    return ("group", pattern)


def again(pattern, least, most, way="many"):
    """A pattern again."""
    return ("again", pattern, least, most, way)


class Plain(Case):
    def test_without_groups(self):
        self.assertEqual(stops(1, A, ""), [((A,), ())])
        self.assertEqual(stops(1, A, "a"), [((), ())])
        self.assertEqual(stops(1, A, "aa"), [])
        self.assertEqual(stops(2, AB, "b"), [((), ())])
        self.assertEqual(stops(2, B, "a"), [])
        self.assertEqual([first_way(1, A, ""), first_way(1, A, "a"), ways(1, A, ""), ways(1, A, "a")],
                         [None, (), [], [()]])

    def test_none_and_empty(self):
        self.assertEqual([stops(2, NONE, ""), first_way(2, NONE, ""), ways(2, NONE, "")], [[], None, []])
        self.assertEqual([stops(2, EMPTY, ""), first_way(2, EMPTY, ""), ways(2, EMPTY, "a")], [[((), ())], (), []])
        self.assertEqual(stops(1, ("any", NONE, EMPTY, A), ""), [((), ()), ((A,), ())])
        self.assertEqual(stops(1, ("row", A, NONE), "a"), [])
        self.assertEqual(stops(1, group(NONE), ""), [])
        self.assertEqual(stops(1, group(EMPTY), ""), [((), ((0, (0, 0)),))])

    def test_rows_and_choices(self):
        self.assertEqual(stops(2, ("row", A, B), ""), [((A, B), ())])
        self.assertEqual(stops(2, ("row", A, B), "a"), [((B,), ())])
        self.assertEqual(stops(2, ("any", A, B, A), ""), [((A,), ()), ((B,), ()), ((A,), ())])
        # the same stop more than once, and the same way
        self.assertEqual(stops(2, ("any", A, AB, A), "a"), [((), ())] * 3)
        self.assertEqual(ways(2, ("any", A, AB, A), "a"), [()] * 3)
        self.assertEqual(stops(2, ("row", ("any", A, B), AB), "b"), [((AB,), ())])

    def test_groups_are_numbered_as_they_begin(self):
        nested = ("row", group(("row", group(A), B)), group(AB))
        inner = ("group", A, 1)
        outer = ("group", ("row", inner, B), 0)
        self.assertEqual(stops(2, nested, ""), [((A, ("close", 1), B, ("close", 0), ("group", AB, 2)),
                                                 ((0, None), (0, None), (None, None)))])
        self.assertEqual(stops(2, nested, "a"), [((B, ("close", 0), ("group", AB, 2)),
                                                  ((0, None), (0, (0, 1)), (None, None)))])
        self.assertEqual(stops(2, nested, "ab"), [((AB, ("close", 2)), ((0, (0, 2)), (0, (0, 1)), (2, None)))])
        self.assertEqual(first_way(2, nested, "aba"), ((0, 2), (0, 1), (2, 3)))
        # what is not gone through yet is written with numbers, too
        self.assertEqual(stops(2, ("row", A, group(("row", group(A), B)), AB), ""), [
            ((A, outer, AB), ((None, None), (None, None)))])

    def test_groups_without_places(self):
        choice = ("any", group(A), group(B))
        self.assertEqual([first_way(2, choice, "a"), first_way(2, choice, "b"), first_way(2, choice, "")],
                         [((0, 1), None), (None, (0, 1)), None])
        self.assertEqual(first_way(2, again(group(A), 0, None), ""), (None,))
        self.assertEqual(stops(2, ("row", choice, B), "a"), [((B,), ((0, (0, 1)), (None, None)))])

    def test_groups_within_turns(self):
        last = again(("any", group(A), B), 0, None)
        self.assertEqual([first_way(2, last, text) for text in ("", "a", "bab", "bb", "aab")],
                         [(None,), ((0, 1),), ((1, 2),), (None,), ((1, 2),)])
        inner = ("row", ("group", again(B, 0, None), 0), A)
        turn = ("turn", again(inner, 0, None), 0, False)
        # a group that was closed is begun anew: where it was closed last is kept
        self.assertEqual(stops(2, again(("row", group(again(B, 0, None)), A), 0, None), "ba")[0],
                         ((B, ("turn", again(B, 0, None), 0, False), ("close", 0), A, turn), ((2, (0, 1)),)))

    def test_turns(self):
        turn = ("turn", MANY, 0, False)
        self.assertEqual(stops(1, MANY, ""), [((A, turn), ()), ((), ())])
        self.assertEqual(stops(1, FEW, ""), [((), ()), ((A, ("turn", FEW, 0, False)), ())])
        self.assertEqual(stops(1, MANY, "aaa"), [((A, turn), ()), ((), ())])

    def test_turns_with_a_least(self):
        for least, begun in ((1, [1, 1, 1]), (2, [1, 2, 2, 2]), (3, [1, 2, 3, 3])):
            pattern = again(A, least, None)
            for many, done in enumerate(begun):
                found = stops(1, pattern, "a" * many)
                self.assertEqual(found[0], ((A, ("turn", pattern, done, False)), ()))
                self.assertEqual(found[1:], [((), ())] if many >= least else [])

    def test_turns_with_a_most(self):
        pattern = again(A, 1, 3, "few")
        self.assertEqual([stops(1, pattern, "a" * many) for many in range(5)], [
            [((A, ("turn", pattern, 1, False)), ())],
            [((), ()), ((A, ("turn", pattern, 2, False)), ())],
            [((), ()), ((A, ("turn", pattern, 3, False)), ())],
            [((), ())], []])
        self.assertEqual(stops(1, again(A, 0, 1), ""), [((A, ("turn", again(A, 0, 1), 1, False)), ()), ((), ())])

    def test_empty_turns(self):
        both = ("any", EMPTY, A)
        # an empty turn more than least is none; up to least, it is one
        self.assertEqual(stops(1, again(both, 0, None), ""), [((A, ("turn", again(both, 0, None), 0, False)), ()),
                                                              ((), ())])
        first = again(both, 1, None)
        turn = (A, ("turn", first, 1, False))
        self.assertEqual(stops(1, first, ""), [(turn, ()), ((), ()), (turn, ())])
        self.assertEqual(stops(1, again(both, 1, 1), ""), [
            ((), ()), ((A, ("turn", again(both, 1, 1), 1, False)), ())])
        second = again(both, 2, None, "few")
        turns = [((A, ("turn", second, done, False)), ()) for done in range(3)]
        self.assertEqual(stops(1, second, ""), [((), ()), turns[2], turns[2], turns[1]])
        self.assertEqual(ways(1, again(group(EMPTY), 0, None), ""), [(None,)])
        self.assertEqual(ways(1, again(group(EMPTY), 1, None), ""), [((0, 0),)])
        # the second turn is empty, or it is none, or it is the one that has the letter
        self.assertEqual(ways(1, again(group(("any", A, EMPTY)), 1, 2), "a"), [((0, 1),)] * 2)
        self.assertEqual(ways(1, again(group(("any", A, EMPTY)), 2, 2), "a"), [((1, 1),), ((0, 1),)])
        # a turn that letters have gone through is no longer new
        self.assertEqual(ways(1, again(again(A, 0, 1), 0, None), "aa"), [()])

    def test_order(self):
        self.assertEqual(ways(1, ("row", group(MANY), group(FEW)), "aa"),
                         [((0, 2), (2, 2)), ((0, 1), (1, 2)), ((0, 0), (0, 2))])
        self.assertEqual(ways(1, ("row", group(FEW), group(FEW)), "aa"),
                         [((0, 0), (0, 2)), ((0, 1), (1, 2)), ((0, 2), (2, 2))])
        self.assertEqual(first_way(1, ("any", group(A), group(A)), "a"), ((0, 1), None))
        self.assertEqual(ways(1, ("any", group(A), group(A)), "a"), [((0, 1), None), (None, (0, 1))])


class MadeUp(Case):
    def test_as_the_document_says(self):
        for chance in chances(250):
            size = chance.choice([1, 2, 2, 3])
            pattern = good_grouped(chance, size, chance.choice([2, 3, 4]))
            table = table_of(size, pattern)
            with self.subTest(pattern=pattern):
                for text in texts(size, {1: 6, 2: 4, 3: 3}[size]):
                    along = stops_along(pattern, text)
                    self.assertEqual(first_way(size, pattern, text), first_of(along[-1]))
                    if max(len(found) for found in along) > 300:
                        self.refuses(TooMany, stops, size, pattern, text)
                        self.refuses(TooMany, ways, size, pattern, text)
                        continue
                    self.assertEqual(stops(size, pattern, text), along[-1])
                    self.assertEqual(ways(size, pattern, text), ways_of(along[-1]))
                    self.assertIs(is_word(table, text), ways(size, pattern, text) != [])

    def test_words(self):
        for chance in chances(60, 700):
            size = chance.choice([1, 2, 3])
            pattern = good_pattern(chance, size)
            table = table_of(size, pattern)
            for text in texts(size, 4):
                self.assertIs(first_way(size, pattern, text) is not None, is_word(table, text))


class Limits(Case):
    def test_just_as_many(self):
        self.assertEqual(len(stops(1, JUST_300, "a" * 99)), 300)
        self.assertEqual(len(ways(1, JUST_300, "a" * 99)), 99)
        self.assertEqual(len(stops(2, JUST_300, "a" * 99 + "b")), 0)
        self.assertEqual(len(stops(1, JUST_301, "a" * 148)), 299)

    def test_more(self):
        for function in (stops, ways):
            self.refuses(TooMany, function, 1, JUST_300, "a" * 100)
            self.refuses(TooMany, function, 1, JUST_301, "a" * 149)
            # behind a beginning of the text alone
            self.refuses(TooMany, function, 2, JUST_301, "a" * 149 + "b")
            self.refuses(TooMany, function, 1, ("row", JUST_301, A, A, A), "a" * 200)
        self.assertEqual(first_way(1, JUST_301, "a" * 149), ((0, 149),))
        self.assertEqual(first_way(1, JUST_300, "a" * 600), ((0, 599),))
        self.assertIsNone(first_way(2, JUST_301, "a" * 149 + "b"))

    def test_many_turns_within_turns(self):
        deep = A
        for _ in range(6):
            deep = again(deep, 0, None)
        for function in (stops, ways):
            self.refuses(TooMany, function, 1, deep, "a" * 30)
        self.assertEqual(first_way(1, group(deep), "a" * 300), ((0, 300),))
        # what comes to nothing is not gone through, however often it could be
        nothing = again(NONE, 0, 1)
        dead = again(again(again(("any", nothing, nothing), 3, None), 3, None), 3, None)
        self.assertEqual(stops(1, ("row", dead, NONE), ""), [])
        self.refuses(TooMany, stops, 1, ("row", dead, A), "")
        self.assertEqual(first_way(1, ("row", dead, A), "a"), ())

    def test_turns_nested_without_weight(self):
        deep = again(NONE, 0, None)
        for _ in range(10):
            deep = again(deep, 3, None)
        self.assertEqual(stops(1, deep, ""), [((), ())])
        self.assertEqual(ways(1, deep, "a"), [])

    def test_long_texts(self):
        self.assertEqual(stops(2, again(group(AB), 0, None), "ab" * 200)[1], ((), ((399, (399, 400)),)))
        self.assertEqual(first_way(2, again(group(AB), 0, None), "ab" * 1000), ((1999, 2000),))


class Refusals(Case):
    def test_sizes(self):
        for function in FUNCTIONS:
            self.refuses_strange(BadSize, lambda size: function(size, None, None))
            for size in (0, 4, True, "1", (1,)):
                self.refuses(BadSize, function, size, A, "")

    def test_patterns(self):
        for function in FUNCTIONS:
            self.refuses_strange(BadPattern, lambda pattern: function(2, pattern, None))
            for pattern in (["one", "a"], ("one", "c"), ("one", "ba"), ("again", A, False, None, "many"),
                            ("again", A, 0, True, "many"), ("group", A, 0), ("row", A), ("turn", MANY, 0, False),
                            ("again", A, 0, None, "all"), again(again(A, 3, 3), 3, 3), ("close", 0), ("none", 1)):
                self.refuses(BadPattern, function, 2, pattern, "abc")

    def test_texts(self):
        for function in FUNCTIONS:
            self.refuses_strange(BadText, lambda text: function(2, JUST_301, text))
            self.refuses(BadText, function, 1, JUST_301, "a" * 149 + "b")
            self.refuses(BadText, function, 2, A, ["a"])

    def test_answers_are_new(self):
        found = stops(1, MANY, "a")
        found.clear()
        self.assertEqual(len(stops(1, MANY, "a")), 2)
        found = ways(1, MANY, "a")
        found.clear()
        self.assertEqual(ways(1, MANY, "a"), [()])


if __name__ == "__main__":
    unittest.main()
