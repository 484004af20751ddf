"""The examples of the interface, as they stand there."""

import unittest

from patternways.agreeing import agreement, judge_agreement
from patternways.alike import are_alike as are_rows_alike
from patternways.alike import compare
from patternways.coming import comes, source
from patternways.cuts import first_cut, is_cut
from patternways.desks import Desk
from patternways.joins import come_back, free_pairs
from patternways.learning import enough, judge_enough
from patternways.lines import rules_from, rules_lines
from patternways.looks import judge_look, look, sure
from patternways.products import counting, products
from patternways.readings import change, edited, pieces
from patternways.ropes import Rope
from patternways.rows import changed, prospects, rests, standing
from patternways.settling import exchange, settle
from patternways.spans import compare_groups
from patternways.tables import are_alike, is_within, table_of
from patternways.telling import sure as sure_to_come
from patternways.telling import telling
from patternways.trying import growth, tries, widths
from patternways.ways import first_way, ways
from patternways.words import count_words, how_many, nth_word, word_index


class Examples(unittest.TestCase):
    swap = (2, ((('one', 'a'), ('word', 'b')), (('one', 'b'), ('word', 'a'))))
    rules = (2, ((('row', ('one', 'a'), ('one', 'a'), ('one', 'b')), ('word', '')), (('one', 'b'), ('round', 'a', 'b'))))

    def test_tables(self):
        some = ('again', ('one', 'a'), 2, 3, 'many')
        more = ('again', ('one', 'a'), 1, None, 'few')
        self.assertEqual(
            [table_of(1, some), is_within(table_of(1, some), table_of(1, more)),
             are_alike(table_of(1, some), table_of(1, more))],
            [(((1,), (2,), (3,), (4,), (4,)), (False, False, True, True, False)), True, False])

    def test_words(self):
        even = (((1, 0), (0, 1)), (True, False))
        self.assertEqual([how_many(even), [nth_word(even, index) for index in range(5)], word_index(even, 'bb'),
                          count_words(even, 3)], [None, ['', 'b', 'aa', 'bb', 'aab'], 3, 4])

    def test_readings(self):
        self.assertEqual([pieces(self.rules, 'aaabb'), change(self.rules, 'aaabb'),
                          edited(self.rules, 'aaabb', (1, 1, 'b'))],
                         [[(None, 0, 1), (0, 1, 4), (1, 4, 5)], 'aabb',
                          (1, [(1, 1, 2), (None, 2, 3), (1, 3, 4)], 1)])

    def test_looks(self):
        far = (2, ((('row', ('one', 'a'), ('again', ('one', 'a'), 0, None, 'many'), ('one', 'b')), ('word', '')),))
        self.assertEqual([look(self.rules), sure(self.rules, 'aaab', 0), sure(self.rules, 'aa', 0), look(far),
                          judge_look(far).shows(far)], [2, 3, None, None, True])

    def test_cuts(self):
        self.assertEqual([first_cut(self.rules), is_cut(self.rules, 'a'), is_cut(self.rules, 'ab')], ['b', False, True])

    def test_agreeing(self):
        twos = (2, ((('row', ('one', 'a'), ('one', 'a')), ('word', 'a')),))
        self.assertEqual([agreement(self.rules), agreement(twos), judge_agreement(twos).shows(twos)], [2, None, True])

    def test_joins(self):
        rules = (2, ((('one', 'a'), ('word', '')), (('row', ('one', 'a'), ('one', 'a')), ('word', 'b'))))
        self.assertEqual([free_pairs(rules), come_back(rules, [(1, 'aa'), (0, 'a')]),
                          come_back(rules, [(0, 'a'), (1, 'aa')])],
                         [[(None, None), (None, 0), (None, 1), (0, None), (1, None), (1, 0), (1, 1)], True, False])

    def test_learning(self):
        even = (((1, 0), (0, 1)), (True, False))
        self.assertEqual([enough(even, 1), enough(even, 2), judge_enough(even, 2).shows(even, 2)], [2, 5, True])

    def test_rows(self):
        mark = (2, ((('row', ('again', ('one', 'a'), 0, None, 'many'), ('one', 'b')), ('round', 'b', 'a')),))
        self.assertEqual([changed((mark, self.swap), 'aab'), standing((mark, self.swap), 'aab', 2),
                          prospects((mark,), 'ab'), rests((mark,)), rests((self.swap,))],
                         ['abbab', ((0, None), 'abb'), ((0, None, None), ()), ['', 'b'], ['', 'a', 'b']])

    def test_alike(self):
        swap, nothing = self.swap, (2, ((('none',), ('word', '')),))
        self.assertEqual([are_rows_alike((swap, swap), (nothing,)), are_rows_alike((swap,), (nothing,)),
                          compare((swap,), (nothing,)).shows((swap,), (nothing,))], [True, False, True])

    def test_settling(self):
        swap, drop = self.swap, (2, ((('again', ('one', 'a'), 1, None, 'few'), ('word', '')),))
        self.assertEqual([settle(drop).number, len(settle(swap).texts),
                          exchange(swap, swap).shows((swap, swap), (swap, swap))], [1, 3, True])

    def test_telling(self):
        lag = (2, ((('row', ('again', ('one', 'a'), 1, None, 'many'), ('one', 'b')), ('word', 'b')),))
        found = telling((self.swap,))
        self.assertEqual([len(found), found.tell('abba'), found.moves[(0, 'a')], sure_to_come((lag,), 'aa'),
                          sure_to_come((lag,), 'baa'), telling((lag,)).shows((lag,))],
                         [1, 'baab', (0, 'b'), '', 'b', True])

    def test_coming(self):
        swap, drop = self.swap, (2, ((('again', ('one', 'a'), 1, None, 'few'), ('word', '')),))
        self.assertEqual([comes((drop,)), source((swap,), 'ab').text, source((drop,), 'ba').shows((drop,), 'ba')],
                         [(((1, 0), (1, 1)), (True, False)), 'ba', True])

    def test_spans(self):
        many = ('row', ('group', ('again', ('one', 'a'), 0, None, 'many')),
                ('group', ('again', ('one', 'a'), 0, None, 'many')))
        few = ('row', ('group', ('again', ('one', 'a'), 0, None, 'few')),
               ('group', ('again', ('one', 'a'), 0, None, 'many')))
        last = ('again', ('any', ('group', ('one', 'a')), ('one', 'b')), 0, None, 'many')
        self.assertEqual([first_way(1, many, 'aa'), ways(1, few, 'aa'), first_way(2, last, 'bab'),
                          compare_groups(1, many, few).shows(1, many, few)],
                         [((0, 2), (2, 2)), [((0, 0), (0, 2)), ((0, 1), (1, 2)), ((0, 2), (2, 2))], ((1, 2),), True])

    def test_trying(self):
        twos = ('row', ('again', ('one', 'a'), 0, None, 'many'), ('again', ('one', 'a'), 0, None, 'many'))
        deep = ('again', ('again', ('one', 'a'), 0, None, 'many'), 0, None, 'few')
        self.assertEqual([widths(1, twos, 'aa'), tries(1, twos, 'aa'), growth(1, twos).number,
                          growth(1, deep).shows(1, deep)], [[3, 5, 7], 15, 1, True])

    def test_products(self):
        even = (((1,), (0,)), (True, False))
        self.assertEqual([products(even), counting(even).shows(even),
                          counting(table_of(2, ('row', ('one', 'a'), ('one', 'b')))).number],
                         [{(0, 1): '', (1, 0): 'a'}, True, 2])

    def test_ropes(self):
        even = (((1, 0), (0, 1)), (True, False))
        rope = Rope(even, 'aba')
        rope.put(1, 'a')
        self.assertEqual([rope.kept, rope.is_word(), rope.stand(0, 2), rope.take(0), rope.kept, rope.is_word()],
                         ['aaba', False, 0, None, 'aba', True])

    def test_desks(self):
        desk = Desk(self.rules, 'aaabb')
        self.assertEqual(desk.edit((1, 1, 'b')), (1, [(1, 1, 2), (None, 2, 3), (1, 3, 4)], 1))
        self.assertEqual(desk.apply(), 'aabbaabbabb')
        self.assertEqual([desk.text, desk.undo(), desk.text, desk.journal()],
                         ['aabbaabbabb', ('apply',), 'ababb', [('edit', 1, 1, 'b')]])

    def test_lines(self):
        self.assertEqual([rules_lines(self.rules), rules_from(rules_lines(self.rules)) == self.rules],
                         ['size 2\nfind row 3 one a one a one b\nput word -\nfind one b\nput round a b\n', True])


if __name__ == "__main__":
    unittest.main()
