"""[5] Words counted."""

import unittest

from patternways.errors import BadIndex, BadNumber, BadTable, BadText, NoWord
from patternways.tables import is_word, table_of
from patternways.words import count_words, first_word, how_many, longest, nth_word, word_index
from tests.brute import chances, good_pattern, good_table, texts
from tests.case import ALL, EVEN, NOTHING, Case

EMPTY = table_of(2, ("empty",))
UP_TO_THREE = table_of(1, ("again", ("one", "a"), 1, 3, "few"))
# one word for each 40 letters
RARE = (tuple(((stand + 1) % 40,) for stand in range(40)), tuple(stand == 39 for stand in range(40)))


class Counting(Case):
    def test_plain(self):
        self.assertEqual([count_words(EVEN, length) for length in range(5)], [1, 1, 2, 4, 8])
        self.assertEqual([count_words(UP_TO_THREE, length) for length in range(5)], [0, 1, 1, 1, 0])
        self.assertEqual([how_many(table) for table in (EVEN, ALL, NOTHING, EMPTY, UP_TO_THREE)], [None, None, 0, 1, 3])
        self.assertEqual([longest(table) for table in (EVEN, ALL, NOTHING, EMPTY, UP_TO_THREE)], [None, None, -1, 0, 3])
        self.assertEqual([first_word(table) for table in (EVEN, NOTHING, EMPTY, UP_TO_THREE)], ["", None, "", "a"])
        self.assertEqual(first_word(table_of(2, ("any", ("row", ("one", "a"), ("one", "a")), ("one", "b")))), "b")

    def test_a_ring_that_leads_to_no_word_does_not_count(self):
        table = (((1, 2), (1, 1), (2, 2)), (True, False, False))
        self.assertEqual([how_many(table), longest(table), first_word(table)], [1, 0, ""])

    def test_lengths_up_to_sixty(self):
        self.assertEqual(count_words(ALL, 60), 2 ** 60)
        self.assertEqual(count_words((((0, 0, 0),), (True,)), 60), 3 ** 60)
        self.assertEqual(count_words(EVEN, 0), 1)
        self.assertEqual(count_words(NOTHING, 60), 0)
        for length in [61, -1, True, False, None, "1", (1,), [1], 10 ** 20]:
            self.refuses(BadNumber, count_words, EVEN, length)

    def test_made_up_tables(self):
        for chance in chances(120):
            size = chance.choice([1, 2, 3])
            most = {1: 12, 2: 8, 3: 5}[size]
            table = table_of(size, good_pattern(chance, size)) if chance.random() < 0.5 else good_table(chance, size, 6)
            words = [text for text in texts(size, most) if is_word(table, text)]
            with self.subTest(table=table):
                for length in range(most + 1):
                    self.assertEqual(count_words(table, length), sum(len(word) == length for word in words))
                self.assertEqual([nth_word(table, index) for index in range(min(len(words), 60))], words[:60])
                self.assertEqual([word_index(table, word) for word in words[-60:]],
                                 list(range(len(words)))[-60:])
                if how_many(table) is None:
                    self.assertIsNone(longest(table))
                    self.assertGreater(sum(count_words(table, length) for length in range(60)), 6)
                else:
                    self.assertEqual(how_many(table), sum(count_words(table, length) for length in range(60)))
                    self.assertEqual(longest(table), max([length for length in range(60) if count_words(table, length)],
                                                         default=-1))
                if words:
                    self.assertEqual(first_word(table), words[0])


class Indices(Case):
    def test_the_ends(self):
        self.assertEqual(nth_word(ALL, 0), "")
        self.assertEqual(nth_word(ALL, 9999), texts(2, 13)[9999])
        self.assertEqual(word_index(ALL, texts(2, 13)[9999]), 9999)
        self.assertEqual(nth_word(RARE, 9999), "a" * (40 * 9999 + 39))
        self.assertEqual(word_index(RARE, "a" * (40 * 9999 + 39)), 9999)
        self.assertEqual(word_index(ALL, "b" * 100), 2 ** 101 - 2)

    def test_refused_indices(self):
        for index in [10000, -1, True, False, None, "0", (0,), [0], 10 ** 20]:
            self.refuses(BadIndex, nth_word, ALL, index)
        self.assertEqual(nth_word(UP_TO_THREE, 2), "aaa")
        self.refuses(BadIndex, nth_word, UP_TO_THREE, 3)
        self.refuses(BadIndex, nth_word, UP_TO_THREE, 9999)
        self.refuses(BadIndex, nth_word, NOTHING, 0)

    def test_refused_words(self):
        self.refuses(NoWord, word_index, EVEN, "a")
        self.refuses(NoWord, word_index, NOTHING, "")
        self.refuses(NoWord, word_index, NOTHING, "ab" * 20000)
        self.refuses(BadText, word_index, EVEN, "c")
        self.refuses_strange(BadText, lambda value: word_index(EVEN, value))

    def test_tables_are_refused_first(self):
        for function in (how_many, longest, first_word):
            self.refuses_strange(BadTable, function)
        self.refuses(BadTable, count_words, (((0, 0),), (1,)), 61)
        self.refuses(BadTable, nth_word, None, -1)
        self.refuses(BadTable, word_index, [], 5)


if __name__ == "__main__":
    unittest.main()
