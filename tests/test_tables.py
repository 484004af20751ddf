"""[3] Tables, and [4] alike and within."""

import unittest

from patternways.errors import BadTable, BadText, TooLarge, Unequal
from patternways.tables import (Alike, Outside, Parted, Within, are_alike, both, either, is_within, is_word, judge_alike,
                                judge_within, least, table_of, without)
from tests.brute import chances, good_pattern, good_table, is_least, texts
from tests.case import ALL, EVEN, NOTHING, ONE_LETTER, Case

SEVEN = [judge_alike, judge_within, are_alike, is_within, both, either, without]
# even again, with each stand twice: an a leads to the other copy, too
TWICE = (((3, 2), (2, 3), (3, 0), (0, 1)), (True, False, True, False))


def wheel(many):
    """The table of the texts whose number of letters is a multiple of a number."""
    return (tuple(((stand + 1) % many,) for stand in range(many)), tuple(stand == 0 for stand in range(many)))


def words(table, size, most=6):
    return {text for text in texts(size, most) if is_word(table, text)}


class TableArguments(Case):
    def test_what_is_no_table(self):
        for given in (lambda value: is_word(value, ""), least):
            self.refuses_strange(BadTable, given)
            self.refuses_strange(BadTable, lambda value, given=given: given((value, (True,))))
            self.refuses_strange(BadTable, lambda value, given=given: given(((value,), (True,))))
            self.refuses_strange(BadTable, lambda value, given=given: given((((0, 0),), value)))
            self.refuses_strange(BadTable, lambda value, given=given: given((((0, value),), (True,))))
            self.refuses_strange(BadTable, lambda value, given=given: given((((0, 0),), (value,))),
                                 [True, False])

    def test_wrong_forms(self):
        for table in [((), ()), (((),), (True,)), (((0, 0, 0, 0),), (True,)), (((0, 1),), (True,)),
                      (((1, 1), (0,)), (True, False)), (((1, 1), (0, 1, 1)), (True, False)),
                      (((1, 1), [0, 0]), (True, False)), (((1, 1), (0, 0)), (True, True, False)),
                      (((1, 1), (0, 0)), (True,)), (((0, 0), (1, 1)), (True, False)), (((1, 1), (0, 2)), (True, True)),
                      (((0, 0),), (True, False)), (((0, 0),), (1,)), (((0, 0),), (None,)), (((0, False),), (True,)),
                      [((0, 0),), (True,)], ([(0, 0)], (True,)), (([0, 0],), (True,)), (((0, 0),), [True]),
                      (((0, 0),), (True,), 0), (((0, -1),), (True,)), (((1,), (False,)), (True, True))]:
            with self.subTest(table=table):
                self.refuses(BadTable, least, table)
                self.refuses(BadTable, is_word, table, "a")

    def test_at_most_forty_stands(self):
        self.assertEqual(least(wheel(40)), wheel(40))
        self.refuses(BadTable, least, wheel(41))

    def test_texts(self):
        self.refuses_strange(BadText, lambda value: is_word(EVEN, value))
        self.refuses(BadText, is_word, EVEN, "abc")
        self.refuses(BadText, is_word, ONE_LETTER, "aba")
        self.refuses(BadText, is_word, EVEN, ["a"])
        self.refuses(BadText, is_word, EVEN, "a\n")
        self.refuses(BadTable, is_word, [], "abc")


class Tables(Case):
    def test_is_word(self):
        self.assertEqual([is_word(EVEN, text) for text in ("", "a", "aa", "b", "aba", "ab")],
                         [True, False, True, True, True, False])
        self.assertIs(is_word(EVEN, "ab" * 50000), True)

    def test_no_words_and_all(self):
        self.assertEqual(table_of(2, ("none",)), NOTHING)
        self.assertEqual(table_of(2, ("again", ("one", "ab"), 0, None, "few")), ALL)
        self.assertEqual(table_of(2, ("empty",)), (((1, 1), (1, 1)), (True, False)))

    def test_tables_are_numbered_by_first_texts(self):
        self.assertEqual(table_of(2, ("row", ("one", "b"), ("one", "a"))),
                         (((1, 2), (1, 1), (3, 1), (1, 1)), (False, False, False, True)))

    def test_least(self):
        self.assertEqual(least(TWICE), EVEN)
        self.assertEqual(least((((1, 1), (0, 0)), (True, True))), ALL)
        self.assertEqual(least((((2, 1), (0, 1), (0, 2)), (True, True, False))),
                         (((1, 2), (0, 1), (0, 2)), (True, False, True)))

    def test_made_up_tables(self):
        for chance in chances(80):
            size = chance.choice([1, 2, 3])
            table = good_table(chance, size, 8)
            found = least(table)
            with self.subTest(table=table):
                self.assertTrue(is_least(*found))
                self.assertEqual(words(found, size), words(table, size))
                self.assertEqual(least(found), found)
                self.assertTrue(judge_alike(found, table).shows(found, table))

    def test_made_up_patterns_are_least(self):
        for chance in chances(80):
            size = chance.choice([1, 2, 3])
            self.assertTrue(is_least(*table_of(size, good_pattern(chance, size))))


class Comparing(Case):
    def test_made_up_tables(self):
        kinds = set()
        for chance in chances(150, 1000):
            size = chance.choice([1, 2])
            one, other = good_table(chance, size, 3), good_table(chance, size, 3)
            some, others = words(one, size), words(other, size)
            with self.subTest(one=one, other=other):
                alike, within = judge_alike(one, other), judge_within(one, other)
                kinds |= {type(alike), type(within)}
                self.assertIs(alike.shows(one, other), True)
                self.assertIs(within.shows(one, other), True)
                self.assertEqual(isinstance(alike, Alike), some == others)
                self.assertEqual(are_alike(one, other), some == others)
                self.assertEqual(isinstance(within, Within), some <= others)
                self.assertEqual(is_within(one, other), some <= others)
                for found, expected in [(both(one, other), some & others), (either(one, other), some | others),
                                        (without(one, other), some - others)]:
                    self.assertTrue(is_least(*found))
                    self.assertEqual(words(found, size), expected)
        self.assertEqual(kinds, {Alike, Parted, Within, Outside})

    def test_alike_shows(self):
        alike = judge_alike(EVEN, TWICE)
        self.assertEqual(sorted(alike.pairs), [(0, 0), (0, 2), (1, 1), (1, 3)])
        pairs = list(alike.pairs)
        self.shows_only_as_made(alike, (EVEN, TWICE), {"pairs": [
            [], pairs[1:], pairs[:-1], pairs + [(0, 1)], pairs + [(2, 0)], pairs + [(0, 4)], pairs + [(-1, 0)],
            pairs + [(True, True)], pairs + [[0, 0]], pairs + [(0,)], pairs + [(0, 0, 0)]]})
        alike.pairs = pairs[::-1] + pairs
        self.assertIs(alike.shows(EVEN, TWICE), True)
        self.assertIs(alike.shows(EVEN, ALL), False)

    def test_within_shows(self):
        within = judge_within(EVEN, ALL)
        self.assertEqual(within.pairs, [(0, 0), (1, 0)])
        self.shows_only_as_made(within, (EVEN, ALL), {"pairs": [[], [(0, 0)], [(1, 0)], [(0, 0), (1, 0), (1, 1)]]})
        self.assertIs(Within([(0, 0), (0, 1)]).shows(ALL, EVEN), False)
        self.assertIs(Alike([(0, 0), (1, 0)]).shows(EVEN, ALL), False)
        # more pairs than lead from the first one
        self.assertIs(Within([(0, 0), (1, 1), (1, 0), (0, 1)]).shows(EVEN, EVEN), False)
        self.assertIs(Within([(0, 0), (1, 1), (1, 1)]).shows(EVEN, EVEN), True)

    def test_words_show(self):
        parted = judge_alike(EVEN, ALL)
        self.assertEqual(parted, Parted("a"))
        self.shows_only_as_made(parted, (EVEN, ALL), {"word": ["", "aa", "b", None, "c", 0, ["a"]]})
        self.assertIs(Parted("bab").shows(ALL, EVEN), True)
        outside = judge_within(ALL, EVEN)
        self.assertEqual(outside, Outside("a"))
        self.shows_only_as_made(outside, (ALL, EVEN), {"word": ["", "aa", "b", None, "ac"]})
        self.assertIs(Outside("abaa").shows(ALL, EVEN), True)
        self.assertIs(Outside("a").shows(EVEN, ALL), False)
        self.assertIs(Parted("").shows(ALL, NOTHING), True)
        some, others = table_of(2, ("one", "ab")), table_of(2, ("one", "b"))
        self.assertEqual([Outside(word).shows(some, others) for word in ("", "a", "b", "ab")], [False, True, False, False])
        self.assertEqual([Parted(word).shows(others, some) for word in ("", "a", "b", "ab")], [False, True, False, False])

    def test_forty_stands_and_more(self):
        self.assertEqual(both(wheel(5), wheel(8)), wheel(40))
        self.assertEqual(len(either(wheel(5), wheel(8))[0]), 40)
        self.assertEqual(both(wheel(40), wheel(20)), wheel(40))
        for function in (both, either, without):
            self.refuses(TooLarge, function, wheel(6), wheel(7))
        self.assertEqual(judge_within(wheel(39), wheel(40)), Outside("a" * 39))
        self.assertEqual(len(judge_alike(wheel(40), wheel(40)).pairs), 40)

    def test_refusals(self):
        shown = [Alike([(0, 0)]).shows, Parted("a").shows, Within([]).shows, Outside("").shows]
        for function in SEVEN + shown:
            with self.subTest(function=function):
                self.refuses(BadTable, function, None, EVEN)
                self.refuses(BadTable, function, EVEN, (((0, 0),), (1,)))
                self.refuses(BadTable, function, ONE_LETTER, [])
                self.refuses(BadTable, function, [], ONE_LETTER)
                self.refuses(Unequal, function, EVEN, ONE_LETTER)
                self.refuses(Unequal, function, wheel(7), EVEN)
                self.refuses(BadTable, function, wheel(41), EVEN)

    def test_evidence_is_equal_by_its_attributes(self):
        self.assertTrue(Alike([(0, 0)]) == Alike(((0, 0),)))
        self.assertTrue(Alike([(0, 0)]) != Alike([]))
        self.assertFalse(Alike([(0, 0)]) == Within([(0, 0)]))
        self.assertTrue(Alike([(0, 0)]) != Within([(0, 0)]))
        self.assertFalse(Within([(0, 0)]) == Alike([(0, 0)]))
        self.assertTrue(Parted("a") != Outside("a"))
        self.assertTrue(Outside("a") != Parted("a"))
        self.assertTrue(Outside("a") != Outside("b"))
        self.assertTrue(Outside("a") == Outside("a"))
        self.assertTrue(Parted("a") != Parted("b"))
        self.assertTrue(Within([(0, 0)]) == Within([(0, 0)]))
        self.assertTrue(Within([(0, 0)]) != Within([(0, 0), (0, 0)]))

    def test_what_is_given_is_copied(self):
        given = [(0, 0)]
        for made in (Alike(given), Within(given)):
            given.append((5, 5))
            self.assertEqual(made.pairs, [(0, 0)])
            given.pop()
        self.assertEqual(Alike(((0, 0), (1, 1))).pairs, [(0, 0), (1, 1)])
        self.assertIsInstance(Within(((0, 0),)).pairs, list)

    def test_answers_are_new_and_equal(self):
        first, second = judge_alike(EVEN, EVEN), judge_alike(EVEN, EVEN)
        self.assertEqual(first, second)
        first.pairs.append((0, 0))
        self.assertEqual(judge_alike(EVEN, EVEN), second)


if __name__ == "__main__":
    unittest.main()
