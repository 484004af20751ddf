"""[13] Tables learnt."""

import unittest
from itertools import product

from patternways.errors import BadNumber, BadSize, BadTable, TooLarge
from patternways.learning import Enough, enough, judge_enough, learn
from patternways.tables import are_alike, is_word, least, table_of
from tests.brute import chances, good_table, is_least, texts
from tests.case import ALL, EVEN, FORTY, MORE_THAN_FORTY, NOTHING, ONE_LETTER, Case

A, B = ("one", "a"), ("one", "b")
# (size, most): all that enough takes
LIMITS = [(1, 1), (1, 2), (1, 3), (1, 4), (2, 1), (2, 2), (2, 3), (3, 1), (3, 2)]
BAD_NUMBERS = [0, 5, -1, 10 ** 20, True, False, None, "2", (2,), [2]]


class Asked:
    """A function that tells whether texts are words, and keeps what it was asked."""

    def __init__(self, is_it):
        self.is_it, self.asked = is_it, []

    def __call__(self, text):
        self.asked.append(text)
        return self.is_it(text)


def all_tables(size, most):
    """All tables with at most so many stands."""
    for many in range(1, most + 1):
        for rows in product(product(range(many), repeat=size), repeat=many):
            order = [0]
            for stand in order:
                order.extend(later for later in dict.fromkeys(rows[stand]) if later not in order)
            if len(order) == many:
                for ends in product((False, True), repeat=many):
                    yield rows, ends


def words_of(table, some):
    """Which of some texts are words of a table, as a tuple."""
    rows, ends = table
    found = []
    for text in some:
        stand = 0
        for letter in text:
            stand = rows[stand]["abc".index(letter)]
        found.append(ends[stand])
    return tuple(found)


class Learning(Case):
    def test_plain(self):
        self.assertEqual(learn(2, lambda text: text.count("a") % 2 == 0, 3), EVEN)
        self.assertEqual(learn(2, lambda text: text.count("a") % 2 == 0, 2), EVEN)
        self.assertIsNone(learn(2, lambda text: text == "a", 2))
        self.assertEqual(learn(2, lambda text: text == "a", 3), table_of(2, A))
        self.assertEqual(learn(2, lambda text: True, 4), ALL)
        self.assertEqual(learn(2, lambda text: False, 1), NOTHING)
        self.assertEqual(learn(1, lambda text: True, 2), ONE_LETTER)

    def test_one_stand_alone(self):
        # only the empty text is asked
        for ask, expected in [(lambda text: True, (((0, 0, 0),), (True,))), (lambda text: False, (((0, 0, 0),), (False,))),
                              (lambda text: text == "", (((0, 0, 0),), (True,)))]:
            asked = Asked(ask)
            self.assertEqual(learn(3, asked, 1), expected)
            self.assertEqual(asked.asked, [""])

    def test_each_text_is_asked_once(self):
        for size in (1, 2, 3):
            for most in (1, 2, 3, 4):
                for ask in (lambda text: len(text) % 2 == 0, lambda text: "aa" in text, lambda text: hash(text) % 3 == 0):
                    asked = Asked(ask)
                    learn(size, asked, most)
                    self.assertEqual(sorted(asked.asked), sorted(texts(size, 2 * most - 2)))

    def test_tables_are_learnt_again(self):
        for chance in chances(200):
            size, most = chance.choice([1, 2, 3]), chance.randint(1, 4)
            table = good_table(chance, size, most)
            found = learn(size, lambda text, table=table: is_word(table, text), most)
            self.assertEqual(found, least(table))
            self.assertTrue(is_least(*found))

    def test_no_table_with_so_few_stands(self):
        for size, most in [(1, 2), (1, 3), (2, 2)]:
            some = texts(size, 2 * most - 2)
            known = {}
            for table in all_tables(size, most):
                known.setdefault(words_of(table, some), least(table))
            for answers in product((False, True), repeat=len(some)):
                told = dict(zip(some, answers))
                self.assertEqual(learn(size, told.get, most), known.get(answers))

    def test_answers_that_part_late(self):
        # as the even ones, but for one long text
        for most in (3, 4):
            for text in texts(2, 2 * most - 2, 2 * most - 2):
                self.assertIsNone(learn(2, lambda some, text=text: (some.count("a") % 2 == 0) != (some == text), most))
        # beyond all texts that are asked it is something else
        self.assertEqual(learn(2, lambda text: text.count("a") % 2 == 0 or len(text) > 2, 2), EVEN)
        self.assertIsNone(learn(2, lambda text: text.count("a") % 2 == 0 or len(text) > 2, 3))

    def test_an_error_of_the_function_is_passed_on(self):
        with self.assertRaises(ZeroDivisionError):
            learn(2, lambda text: 1 // 0 == 0, 2)

    def test_refusals(self):
        asked = Asked(lambda text: True)
        for size in [0, 4, -1, True, False, None, "2", (2,), [1]]:
            self.refuses(BadSize, learn, size, asked, 2)
            self.refuses(BadSize, learn, size, asked, 0)
        for most in BAD_NUMBERS:
            self.refuses(BadNumber, learn, 2, asked, most)
        self.assertEqual(asked.asked, [])


class FirstTexts(Case):
    def test_plain(self):
        self.assertEqual([enough(EVEN, most) for most in (1, 2, 3)], [2, 5, 11])
        self.assertEqual([enough(ONE_LETTER, most) for most in (1, 2, 3, 4)], [1, 2, 3, 4])

    def test_all_tables(self):
        # what is enough, by all tables there are
        known = {}
        for chance in chances(25):
            size, most = chance.choice(LIMITS)
            table = good_table(chance, size, chance.randint(1, 4))
            # two tables of four stands and of three are told apart by some text of at most five letters
            some = texts(size, 6 if size == 1 else 5)
            if (size, most) not in known:
                known[(size, most)] = [(other, words_of(other, some)) for other in all_tables(size, most)]
            told = words_of(table, some)
            others = [(other, answers) for other, answers in known[(size, most)] if answers != told]
            number = max([[one != two for one, two in zip(told, answers)].index(True) for _, answers in others]) + 1
            with self.subTest(table=table, most=most):
                found = judge_enough(table, most)
                self.assertEqual([found.number, enough(table, most)], [number, number])
                self.assertIs(found.shows(table, most), True)
                self.assertEqual(found, judge_enough(table, most))
                for other, answers in others[::1 + len(others) // 100]:
                    self.assertIs(Enough(number, other).shows(table, most), answers[:number - 1] == told[:number - 1])

    def test_never_more_than_needed(self):
        for chance in chances(120):
            size, most = chance.choice(LIMITS)
            table = good_table(chance, size, most)
            self.assertLessEqual(enough(table, most), len(texts(size, 2 * most - 2)))

    def test_a_table_with_more_stands_than_most(self):
        # the words with at most five letters: there is no such table with two stands
        table = table_of(1, ("again", ("again", A, 0, 2, "many"), 0, 2, "many"))
        self.assertEqual(len(table[0]), 6)
        for most in (1, 2, 3, 4):
            found = judge_enough(table, most)
            self.assertEqual(found.number, 6)
            self.assertIs(found.shows(table, most), True)
            self.assertEqual(words_of(found.other, texts(1, 5)), (True,) * 5 + (words_of(found.other, ["aaaaa"])[0],))
        # forty stands in a ring: all texts but those with 39 letters, and 40 more and so on
        ring = (tuple(((stand + 1) % 40,) for stand in range(40)), (True,) * 39 + (False,))
        self.assertEqual([enough(ring, most) for most in (1, 4)], [40, 40])
        self.assertIs(judge_enough(ring, 4).shows(ring, 4), True)
        # the first text that tells this one from all texts has 39 letters
        wide = (tuple((stand + 1, 0) for stand in range(39)) + ((39, 39),), (True,) * 39 + (False,))
        self.assertEqual(enough(wide, 3), 2 ** 39)
        self.assertIs(judge_enough(wide, 3).shows(wide, 3), True)

    def test_tables_of_forty_stands(self):
        table = table_of(*FORTY)
        self.assertIs(judge_enough(table, 2).shows(table, 2), True)
        self.refuses(TooLarge, table_of, *MORE_THAN_FORTY)

    def test_a_table_that_is_not_least(self):
        twice = (((1,), (2,), (3,), (0,)), (True, False, True, False))
        for most in (1, 2, 3, 4):
            self.assertEqual(enough(twice, most), enough((((1,), (0,)), (True, False)), most))
        # and that is alike to each table it could be told from but for two
        self.assertEqual(enough((((1, 1), (0, 0)), (True, True)), 1), 1)

    def test_shows(self):
        found = judge_enough(EVEN, 2)
        self.assertEqual(found.number, 5)
        self.shows_only_as_made(found, (EVEN, 2), {
            "number": [0, 1, 4, 6, -1, True, None, "5"],
            "other": [EVEN, ALL, NOTHING, ONE_LETTER, None, (), ((), ()), [list(found.other[0]), found.other[1]],
                      (((1, 0), (0, 1)), (True, True)), (((0, 0), (0, 0)), (True, False)),
                      (found.other[0], tuple(int(end) for end in found.other[1])),
                      (((1, 2), (0, 1), (2, 2)), (True, False, True))]})
        # other tables that will do: with the same answers for the first four texts, and not for the fifth one
        some = texts(2, 3)
        good = [table for table in all_tables(2, 2) if words_of(table, some[:4]) == words_of(EVEN, some[:4])
                and not are_alike(table, EVEN)]
        self.assertTrue(good)
        for other in good:
            self.assertIs(Enough(5, other).shows(EVEN, 2), True)
            self.assertIs(Enough(5, other).shows(EVEN, 1), False)
        alike = (((1, 2), (0, 1), (1, 0)), (True, False, True))
        self.assertTrue(are_alike(alike, EVEN))
        self.assertIs(Enough(enough(EVEN, 3), alike).shows(EVEN, 3), False)
        # a table need not be the least one
        self.assertIs(Enough(2, (((0, 0),), (True,))).shows(EVEN, 1), True)
        self.assertIs(Enough(2, (((1, 1), (1, 1)), (True, True))).shows(EVEN, 1), False)
        self.assertIs(Enough(1, (((1, 1), (1, 1)), (True, True))).shows(NOTHING, 2), False)

    def test_number_one(self):
        self.assertEqual([enough(table, 1) for table in (ALL, NOTHING)], [1, 1])
        self.assertIs(Enough(1, NOTHING).shows(ALL, 1), True)
        self.assertIs(Enough(True, NOTHING).shows(ALL, 1), False)
        self.assertIs(Enough(1, ALL).shows(ALL, 1), False)

    def test_equality(self):
        self.assertTrue(Enough(2, ALL) == Enough(2, ALL))
        self.assertTrue(Enough(2, ALL) != Enough(3, ALL))
        self.assertTrue(Enough(2, ALL) != Enough(2, NOTHING))

    def test_refusals(self):
        for function in (enough, judge_enough, Enough(2, ALL).shows):
            self.refuses_strange(BadTable, lambda value, function=function: function(value, 9))
            for most in BAD_NUMBERS:
                self.refuses(BadNumber, function, EVEN, most)
            self.refuses(TooLarge, function, EVEN, 4)
            wide = (((0, 0, 0),), (True,))
            for most in (3, 4):
                self.refuses(TooLarge, function, wide, most)
            self.refuses(BadNumber, function, wide, 5)
        for size, most in LIMITS:
            table = (((0,) * size,), (True,))
            self.assertIs(judge_enough(table, most).shows(table, most), True)


if __name__ == "__main__":
    unittest.main()
