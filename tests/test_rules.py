"""[6] Rules: their forms, and their tables."""

import unittest

from patternways.errors import BadRules, TooLarge
from patternways.readings import pieces
from patternways.rules import table_of_rules
from tests.brute import chances, good_rules, is_least, label, texts
from tests.case import DOC_RULES, FORTY_RULES, MORE_RULES, NO_RULES, Case

A = ("one", "a")
PLAIN = (A, ("word", ""))


class Forms(Case):
    def bad(self, rules, index):
        """The rules are refused with an index, by all that asks for rules in this way."""
        with self.subTest(rules=rules):
            self.assertEqual(self.refuses(BadRules, table_of_rules, rules).index, index)
            self.assertEqual(self.refuses(BadRules, pieces, rules, 5).index, index)

    def test_no_pair_of_a_size_and_a_tuple(self):
        self.refuses_strange(BadRules, table_of_rules)
        for rules in [None, [2, (PLAIN,)], (2,), (2, (PLAIN,), 0), (0, (PLAIN,)), (4, (PLAIN,)), (True, (PLAIN,)),
                      ("2", (PLAIN,)), (None, (PLAIN,)), (2, ()), (2, [PLAIN]), (2, (PLAIN,) * 5), (2, None), (2, 7)]:
            self.bad(rules, None)

    def test_one_to_four(self):
        for many in (1, 2, 3, 4):
            table_of_rules((2, (PLAIN,) * many))

    def test_the_first_bad_item(self):
        for item in [None, True, A, [A, ("word", "")], (A,), (A, ("word", ""), 0), (("word", ""), A), (["one", "a"],
                     ("word", "")), (("one", "c"), ("word", "")), (A, None), (A, "b"), (A, ()), (A, ["word", ""]),
                     (A, ("word",)), (A, ("word", "", "")), (A, ("round", "")), (A, ("round", "a", "b", "a")),
                     (A, ("Word", "")), (A, ("word", "c")), (A, ("word", "aaaa")), (A, ("word", None)),
                     (A, ("word", ("a",))), (A, ("word", ["a"])), (A, ("round", "", "abab")), (A, ("round", "abab", "")),
                     (A, ("round", "", 0)), (A, ("round", "c", "")), (A, (True, "")), (A, (("word",), "")),
                     (("row", A, A, A, A, A), ("word", ""))]:
            self.bad((2, (item,)), 0)
            self.bad((2, (PLAIN, PLAIN, item)), 2)
            self.bad((2, (PLAIN, item, None, item)), 1)

    def test_puts(self):
        for put in [("word", ""), ("word", "abb"), ("round", "", ""), ("round", "aba", "bbb")]:
            table_of_rules((2, ((A, put),)))
        self.bad((1, ((A, ("word", "b")),)), 0)

    def test_weights_of_ten_together(self):
        five = ("again", ("row", A, A, A, A, A[:]), 0, 1, "few")
        self.bad((1, ((five, ("word", "")),)), 0)
        five = ("row", A, A, ("row", A, A, A))
        two = ("again", A, 0, 2, "many")
        table_of_rules((1, ((five, ("word", "")), (five, ("word", "")))))
        table_of_rules((1, ((five, ("word", "")), (two, ("word", "")), (two, ("word", "")), (A, ("word", "")))))
        table_of_rules((1, ((five, ("word", "")), (five, ("word", "")), (("none",), ("word", "")))))
        self.bad((1, ((five, ("word", "")), (five, ("word", "")), (A, ("word", "")))), 2)
        self.bad((1, ((five, ("word", "")), (five, ("word", "")), (("none",), ("word", "")), PLAIN)), 3)
        self.bad((1, ((five, ("word", "")), (five, ("word", "")), (("empty",), ("word", "")), None)), 2)
        self.bad((1, ((five, ("word", "")), (two, None), (five, ("word", "")))), 1)
        # each pattern has a weight of at most 8 by itself
        self.bad((1, ((("again", ("row", A, A, A), 0, 3, "many"), ("word", "")),)), 0)

    def test_forty_stands_and_more(self):
        self.assertEqual(len(table_of_rules(FORTY_RULES)[0]), 40)
        self.refuses(TooLarge, table_of_rules, MORE_RULES)


class TablesOfRules(Case):
    def test_plain(self):
        self.assertEqual(table_of_rules(DOC_RULES), (((1, 2), (3, 4), (4, 4), (4, 5), (4, 4), (4, 4)),
                                                     (None, None, 1, None, None, 0)))
        self.assertEqual(table_of_rules(NO_RULES), (((0, 0),), (None,)))
        self.assertEqual(table_of_rules((1, ((("empty",), ("word", "a")),))), (((0,),), (None,)))

    def test_the_empty_text_has_no_label(self):
        many = ("again", A, 0, None, "many")
        self.assertEqual(table_of_rules((1, ((many, ("word", "")),))), (((1,), (1,)), (None, 0)))

    def test_the_first_of_several_rules(self):
        both = (2, ((A, ("word", "")), (("one", "ab"), ("word", "")), (A, ("word", ""))))
        self.assertEqual(table_of_rules(both), (((1, 2), (3, 3), (3, 3), (3, 3)), (None, 0, 1, None)))
        other = (2, ((("one", "ab"), ("word", "")), (A, ("word", ""))))
        self.assertEqual(table_of_rules(other), (((1, 1), (2, 2), (2, 2)), (None, 0, None)))

    def test_made_up_rules(self):
        for chance in chances(120):
            size = chance.choice([1, 2, 3])
            rules = good_rules(chance, size)
            rows, labels = table_of_rules(rules)
            with self.subTest(rules=rules):
                self.assertTrue(is_least(rows, labels))
                for text in texts(size, {1: 10, 2: 6, 3: 4}[size]):
                    stand = 0
                    for letter in text:
                        stand = rows[stand]["abc".index(letter)]
                    self.assertEqual(labels[stand], label(rules, text), text)


if __name__ == "__main__":
    unittest.main()
