"""[24] Products."""

import unittest

from patternways.errors import BadTable, BadText, TooLarge
from patternways.products import Counting, Steady, counting, product, products
from patternways.tables import table_of
from tests.brute import chances, good_table, texts
from tests.case import ALL, EVEN, FORTY, NOTHING, Case

TWO = (((1,), (0,)), (True, False))
THREE = (((1, 0), (2, 1), (0, 2)), (True, False, False))
AB = table_of(2, ("row", ("one", "a"), ("one", "b")))
# tables with just 150 products, and with just 151
STEADY_150 = (((0, 1), (0, 2), (0, 3), (2, 4), (3, 5), (3, 6), (6, 6)), (True, True, True, True, True, True, False))
STEADY_151 = (((1, 0), (2, 1), (3, 1), (4, 2), (5, 3), (5, 6), (5, 4)), (True, True, True, True, False, True, True))
COUNTING_150 = (((0, 0, 2), (1, 2, 3), (0, 1, 0), (2, 3, 3)), (False, True, True, False))
COUNTING_151 = (((3, 0, 0), (0, 3, 1), (2, 0, 2), (1, 1, 2)), (False, False, False, True))
FUNCTIONS = (products, counting, Counting("", [0, 1]).shows, Steady(0, [""], None).shows)


def plainly(table, text):
    """The product of a text, letter by letter from each stand."""
    found = []
    for stand in range(len(table[0])):
        for letter in text:
            stand = table[0][stand]["abc".index(letter)]
        found.append(stand)
    return tuple(found)


def products_plainly(table, most):
    """The products of the texts with at most so many letters, with their first texts."""
    found = {}
    for text in texts(len(table[0][0]), most):
        found.setdefault(plainly(table, text), text)
    return found


class Products(Case):
    def test_plain(self):
        self.assertEqual(products(TWO), {(0, 1): "", (1, 0): "a"})
        self.assertEqual(list(products(THREE).items()), [((0, 1, 2), ""), ((1, 2, 0), "a"), ((2, 0, 1), "aa")])
        self.assertEqual(products(ALL), {(0,): ""})
        self.assertEqual(products((((0,),), (False,))), {(0,): ""})
        self.assertEqual(list(products(AB).values()), ["", "a", "b", "aa", "ab"])
        self.assertEqual([product(THREE, text) for text in ("", "b", "ab", "aaaa")],
                         [(0, 1, 2), (0, 1, 2), (1, 2, 0), (1, 2, 0)])

    def test_made_up(self):
        seen = set()
        for chance in chances(400):
            size = chance.choice([1, 2, 3])
            table = good_table(chance, size, chance.choice([2, 3, 3, 4]))
            with self.subTest(table=table):
                try:
                    found = products(table)
                except TooLarge:
                    for function in FUNCTIONS:
                        self.refuses(TooLarge, function, table)
                    continue
                self.assertEqual(list(found), sorted(found, key=lambda one: (len(found[one]), found[one])))
                for one, text in found.items():
                    self.assertEqual(plainly(table, text), one)
                    self.assertTrue(all(product(table, text + letter) in found for letter in "abc"[:size]))
                for one, text in products_plainly(table, {1: 9, 2: 6, 3: 4}[size]).items():
                    self.assertEqual(found[one], text)
                    self.assertEqual(product(table, text), one)
                judged = counting(table)
                self.assertEqual(judged, counting(table))
                self.assertIs(judged.shows(table), True)
                seen.add((type(judged), getattr(judged, "number", None)))
                self.judge_plainly(table, judged, found)
        self.assertLessEqual({(Counting, None), (Steady, 0), (Steady, 1), (Steady, 2), (Steady, 3)}, seen)

    def judge_plainly(self, table, judged, found):
        number, counts = 0, False
        for text in found.values():
            copies = [plainly(table, text * many) for many in range(len(table[0]) + 2)]
            steady = [many for many, (one, more) in enumerate(zip(copies, copies[1:])) if one == more]
            counts = counts or not steady
            number = max([number, *steady[:1]])
        self.assertIs(isinstance(judged, Counting), counts)
        if counts:
            later = plainly(table, judged.text)
            self.assertEqual([later[stand] for stand in judged.stands], judged.stands[1:] + judged.stands[:1])
            self.assertGreater(len(judged.stands), 1)
            self.assertEqual(len(set(judged.stands)), len(judged.stands))
        else:
            self.assertEqual(judged.number, number)
            if number == 0:
                self.assertIsNone(judged.text)
            else:
                self.assertNotEqual(plainly(table, judged.text * (number - 1)), plainly(table, judged.text * number))

    def test_counting(self):
        self.assertEqual(counting(TWO), Counting("a", [0, 1]))
        self.assertEqual(counting(THREE), Counting("a", [0, 1, 2]))
        self.assertEqual(counting(EVEN), Counting("a", [0, 1]))
        self.assertEqual([counting(AB).number, counting(ALL).number, counting(NOTHING).number], [2, 0, 0])
        self.assertEqual(counting(ALL), Steady(0, [""], None))
        # of a table that is not the least one, all stands count
        self.assertIsInstance(counting((((1,), (0,)), (True, True))), Counting)
        self.assertEqual(counting((((1, 1), (1, 1)), (False, True))).number, 1)

    def test_limits(self):
        for table in (STEADY_150, COUNTING_150):
            self.assertEqual(len(products(table)), 150)
            self.assertIs(counting(table).shows(table), True)
        self.assertEqual(counting(STEADY_150).number, 6)
        self.assertIsInstance(counting(COUNTING_150), Counting)
        for table in (STEADY_151, COUNTING_151):
            for function in FUNCTIONS:
                self.refuses(TooLarge, function, table)
            self.assertEqual(product(table, "ab"), plainly(table, "ab"))

    def test_forty_stands(self):
        ring = (tuple(((stand + 1) % 40,) for stand in range(40)), (True,) * 40)
        self.assertEqual(len(products(ring)), 40)
        self.assertEqual(counting(ring), Counting("a", list(range(40))))
        line = (tuple((min(stand + 1, 39),) for stand in range(40)), (True,) * 40)
        self.assertEqual([counting(line).number, counting(line).text], [39, "a"])
        forty = table_of(*FORTY)
        self.assertEqual(len(product(forty, "abc")), 40)

    def test_refusals(self):
        for function in FUNCTIONS + (lambda table: product(table, None),):
            self.refuses_strange(BadTable, function)
            for bad in ([], (((0, 1),), (True,)), (((0,), (0,)), (True, True)), (((False,),), (True,)),
                        (((0,),), (1,)), ([(0,)], (True,)), (((0,),), [True]), (((0,), (1,)), (True, False)),
                        (tuple(((stand + 1) % 41,) for stand in range(41)), (True,) * 41)):
                self.refuses(BadTable, function, bad)
        self.refuses_strange(BadText, lambda text: product(TWO, text))
        self.refuses(BadText, product, TWO, "b")
        self.refuses(BadText, product, TWO, ["a"])


class Evidence(Case):
    def test_counting(self):
        self.shows_only_as_made(counting(THREE), (THREE,), {
            "text": ["", "aa", "b", "aaa", "c", None],
            "stands": [[], [0], [0, 2, 1], [0, 1], [0, 1, 2, 0, 1, 2], [0, 1, 3], [0, True, 2], None, [0, 1, None],
                       [-3, -2, -1]]})
        for evidence in (Counting("aa", [0, 2, 1]), Counting("ab", [2, 0, 1]), Counting("a" * 301, (1, 2, 0))):
            self.assertIs(evidence.shows(THREE), True)
        self.assertIs(Counting("a", [0]).shows(AB), False)
        # what leads a stand to itself leads nothing around
        self.assertIs(Counting("a", [2, 2]).shows((((1,), (2,), (2,)), (True, True, True))), False)

    def test_steady(self):
        found = counting(AB)
        self.shows_only_as_made(found, (AB,), {
            "number": [0, 1, 3, None, True, "2"],
            "texts": [[], [""], found.texts[1:], found.texts[:-1], [*found.texts, "c"], None, [*found.texts, None]],
            "text": [None, "", "aa", "ba" * 3, "c", 1]})
        self.assertIs(Steady(2, tuple(reversed(found.texts)) + ("abab", "b"), "ab").shows(AB), True)
        self.assertIs(Steady(1, found.texts, "a").shows(AB), False)
        self.shows_only_as_made(counting(ALL), (ALL,), {"number": [1, False, None], "texts": [[], ["a"]],
                                                        "text": ["", "a"]})
        self.assertIs(Steady(0, ["", "ab", "b"], None).shows(ALL), True)

    def test_other_texts(self):
        found = products(AB)
        others = []
        for one in found:
            others.append([text for text in texts(2, 5)[::-1] if product(AB, text) == one][0])
        self.assertNotIn("", others[1:])
        for text in texts(2, 3):
            self.assertIs(Steady(2, ["", *others], text).shows(AB), product(AB, text) != product(AB, text * 2))

    def test_never_both(self):
        self.assertIs(Steady(2, list(products(THREE).values()), "a").shows(THREE), False)
        for table in (AB, ALL, STEADY_150):
            for stands in ([0, 1], [1, 0]):
                self.assertIs(Counting("a", stands).shows(table), False)

    def test_copies(self):
        stands, some = [0, 1], [""]
        one, other = Counting("a", stands), Steady(0, some, None)
        stands.append(2)
        some.append("a")
        self.assertEqual(one, Counting("a", (0, 1)))
        self.assertEqual(other, Steady(0, ("",), None))
        self.assertTrue(one != Counting("a", [1, 0]))
        self.assertTrue(other != Steady(1, [""], None))
        self.assertFalse(one == other)
        found = products(TWO)
        found.clear()
        self.assertEqual(len(products(TWO)), 2)
        found = counting(AB)
        found.texts.clear()
        self.assertIs(counting(AB).shows(AB), True)


if __name__ == "__main__":
    unittest.main()
