"""The examples of the interface, as they stand there."""

import unittest

from patternways.cuts import first_cut, is_cut
from patternways.looks import judge_look, look, sure
from patternways.readings import change, edited, pieces
from patternways.tables import are_alike, is_within, table_of
from patternways.words import count_words, how_many, nth_word, word_index


class Examples(unittest.TestCase):
    rules = (2, ((('row', ('one', 'a'), ('one', 'a'), ('one', 'b')), ('word', '')), (('one', 'b'), ('round', 'a', 'b'))))

    def test_tables(self):
        some = ('again', ('one', 'a'), 2, 3, 'many')
        more = ('again', ('one', 'a'), 1, None, 'few')
        self.assertEqual(
            [table_of(1, some), is_within(table_of(1, some), table_of(1, more)),
             are_alike(table_of(1, some), table_of(1, more))],
            [(((1,), (2,), (3,), (4,), (4,)), (False, False, True, True, False)), True, False])

    def test_words(self):
        even = (((1, 0), (0, 1)), (True, False))
        self.assertEqual([how_many(even), [nth_word(even, index) for index in range(5)], word_index(even, 'bb'),
                          count_words(even, 3)], [None, ['', 'b', 'aa', 'bb', 'aab'], 3, 4])

    def test_readings(self):
        self.assertEqual([pieces(self.rules, 'aaabb'), change(self.rules, 'aaabb'),
                          edited(self.rules, 'aaabb', (1, 1, 'b'))],
                         [[(None, 0, 1), (0, 1, 4), (1, 4, 5)], 'aabb',
                          (1, [(1, 1, 2), (None, 2, 3), (1, 3, 4)], 1)])

    def test_looks(self):
        far = (2, ((('row', ('one', 'a'), ('again', ('one', 'a'), 0, None, 'many'), ('one', 'b')), ('word', '')),))
        self.assertEqual([look(self.rules), sure(self.rules, 'aaab', 0), sure(self.rules, 'aa', 0), look(far),
                          judge_look(far).shows(far)], [2, 3, None, None, True])

    def test_cuts(self):
        self.assertEqual([first_cut(self.rules), is_cut(self.rules, 'a'), is_cut(self.rules, 'ab')], ['b', False, True])


if __name__ == "__main__":
    unittest.main()
