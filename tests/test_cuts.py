"""[9] Cuts."""

import unittest

from patternways.cuts import Cut, NoCut, first_cut, is_cut, judge_cut
from patternways.errors import BadRules, BadText, TooLarge
from patternways.readings import spots
from patternways.rules import table_of_rules
from tests.brute import chances, good_rules, read, text_spots, texts
from tests.case import DOC_RULES, FAR_RULES, MORE_RULES, NO_RULES, SPOTS_200, SPOTS_201, TWOS, Case

A, AB = ("one", "a"), ("one", "ab")
PLENTY = (1, ((("again", A, 2, None, "many"), ("word", "")),))
ROUND = {1: 6, 2: 3, 3: 2}
# rules with exactly 200 lots, and with 201; both have cuts
LOTS_200 = (2, ((("row", ("empty",), ("one", "b"),
                  ("again", ("again", ("again", AB, 0, 1, "many"), 0, 1, "many"), 0, 2, "few"),
                  ("group", ("again", ("row", AB, ("one", "b")), 2, 2, "many"))), ("round", "aba", "b")),))
LOTS_201 = (2, ((("again", ("one", "b"), 1, 2, "many"), ("word", "a")),
                (("row", ("row", AB, A, ("again", AB, 1, 3, "few"), AB), ("group", A)), ("word", ""))))
# 199 lots and no cut
NO_CUT_199 = (2, ((("again", ("again", ("group", AB), 1, 2, "many"), 0, 3, "few"), ("word", "")),
                  (("again", ("again", ("row", ("one", "b"), A, ("empty",), ("one", "b")), 0, None, "few"), 1, 1, "few"),
                   ("word", ""))))


def is_cut_plainly(rules, word, around):
    """Whether there is a border behind a word, in each text with such texts around it."""
    for ahead in around:
        for behind in around:
            borders = [0] + [past for _, _, past in read(rules, ahead + word + behind)]
            if len(ahead + word) not in borders:
                return False
    return True


class Cuts(Case):
    def test_plain(self):
        self.assertEqual([first_cut(rules) for rules in (DOC_RULES, NO_RULES, TWOS, FAR_RULES)], ["b", "", None, "b"])
        self.assertEqual([is_cut(DOC_RULES, text) for text in ("", "a", "b", "ab", "ba", "aa", "aab")],
                         [False, False, True, True, False, False, True])
        self.assertEqual(judge_cut(DOC_RULES), Cut("b"))

    def test_the_empty_text(self):
        for rules in (NO_RULES, (2, ((AB, ("word", "")),))):
            self.assertEqual(judge_cut(rules), Cut(""))
            self.assertTrue(all(is_cut(rules, text) for text in texts(2, 3)))

    def test_no_cut(self):
        found = judge_cut(TWOS)
        self.assertIsInstance(found, NoCut)
        self.assertIs(found.shows(TWOS), True)
        self.assertIsNone(first_cut(TWOS))
        self.assertFalse(any(is_cut(TWOS, "a" * many) for many in range(9)))

    def test_made_up_rules(self):
        seen = set()
        for chance in chances(50):
            size = chance.choice([1, 2, 3])
            rules = good_rules(chance, size)
            try:
                found = judge_cut(rules)
            except TooLarge:
                continue
            with self.subTest(rules=rules):
                self.assertIs(found.shows(rules), True)
                self.assertEqual(found, judge_cut(rules))
                seen.add(type(found))
                words = texts(size, ROUND[size])
                cuts = [word for word in words if is_cut(rules, word)]
                self.assertTrue(all(is_cut_plainly(rules, word, words) for word in cuts))
                # few spots are met in short texts: then what is no cut shows in them
                if len(spots(rules)) <= 5:
                    wide = texts(size, ROUND[size] + 1)
                    self.assertEqual(cuts, [word for word in words if is_cut_plainly(rules, word, wide)])
                if isinstance(found, Cut):
                    self.assertEqual(first_cut(rules), found.word)
                    self.assertIs(is_cut(rules, found.word), True)
                    self.assertEqual([word for word in texts(size, min(len(found.word), 8)) if word != found.word
                                      and (len(word), word) < (len(found.word), found.word) and is_cut(rules, word)], [])
                else:
                    self.assertIsNone(first_cut(rules))
                    self.assertEqual(cuts, [])
        self.assertEqual(seen, {Cut, NoCut})

    def test_lots_are_those_of_texts(self):
        table = table_of_rules(TWOS)
        lots = {frozenset(lot) for lot in judge_cut(TWOS).lots}
        met = {}
        for text in texts(1, 9):
            for place, spot in enumerate(text_spots(TWOS, table, text)):
                for length in range(min(place, 3) + 1):
                    met.setdefault(length, set()).add(spot)
        self.assertEqual(lots, {frozenset(lot) for lot in met.values()})

    def test_cut_shows(self):
        self.shows_only_as_made(judge_cut(DOC_RULES), (DOC_RULES,), {"word": ["", "a", "ab", "bb", None, "c", 0, ["b"]]})
        self.assertIs(Cut("b").shows(FAR_RULES), True)
        self.assertIs(Cut("a").shows(TWOS), False)
        self.assertIs(Cut(None).shows(TWOS), False)

    def test_no_cut_shows(self):
        found = judge_cut(PLENTY)
        whole = spots(PLENTY)
        self.assertEqual([len(lot) for lot in found.lots], [7, 5, 3])
        self.assertEqual(set(found.lots[0]), set(whole))
        lots = [list(lot) for lot in found.lots]
        border, inner = (None, (None,) * 3), [spot for spot in whole if spot[0] is not None][0]
        smaller = [lots[:number] + lots[number + 1:] for number in range(3)]
        shorter = [lots[:number] + [lots[number][1:]] + lots[number + 1:] for number in range(3)]
        self.shows_only_as_made(found, (PLENTY,), {"lots": [
            [], [whole], [[]], lots + [[]], lots + [[border]], lots + [[inner]], lots + [whole + [(2, border[1])]],
            lots + [[None]], lots + [[(None, [None, None, None])]], lots + [[(False, inner[1])] + whole],
            lots + [[(0, inner[1])] + whole], *smaller, *shorter]})
        found.lots = [lot[::-1] + lot for lot in lots[::-1]] + lots
        self.assertIs(found.shows(PLENTY), True)
        self.assertIs(found.shows(TWOS), False)

    def test_more_lots_than_those_of_texts(self):
        # in twos, all spots can be met behind each text; but these two lots lead to that of all, and have inner spots
        whole = spots(TWOS)
        self.assertEqual(len(judge_cut(TWOS).lots), 1)
        fewer = [spot for spot in whole if spot[1] != (None,) * 4]
        few = [spot for spot in fewer if spot[1][0] is not None]
        self.assertIs(NoCut([whole, few, fewer]).shows(TWOS), True)
        self.assertIs(NoCut([few, whole]).shows(TWOS), False)
        self.assertIs(NoCut([few, fewer]).shows(TWOS), False)

    def test_lots_are_copied(self):
        given = [[(None, (None,))]]
        found = NoCut(given)
        given[0].append(0)
        given.append(1)
        self.assertEqual(found.lots, [[(None, (None,))]])
        self.assertEqual(NoCut(([(None, (None,))],)), found)
        self.assertEqual(NoCut((((None, (None,)),),)).lots, [[(None, (None,))]])
        first = judge_cut(TWOS)
        first.lots[0].clear()
        self.assertTrue(first != judge_cut(TWOS))

    def test_equality(self):
        self.assertTrue(Cut("a") == Cut("a"))
        self.assertTrue(Cut("a") != Cut("b"))
        self.assertTrue(Cut([]) != NoCut([]))
        self.assertTrue(NoCut([]) != Cut([]))
        self.assertTrue(NoCut([]) == NoCut(()))
        self.assertTrue(NoCut([[]]) != NoCut([]))

    def test_two_hundred_spots_and_more(self):
        self.assertEqual(len(spots(SPOTS_200)), 200)
        is_cut(SPOTS_200, "abc")
        for function in (judge_cut, first_cut, Cut("a").shows, NoCut([]).shows):
            self.refuses(TooLarge, function, SPOTS_201)
        self.refuses(TooLarge, is_cut, SPOTS_201, "a")
        self.refuses(BadText, is_cut, SPOTS_201, "abcd")

    def test_two_hundred_lots_and_more(self):
        found = judge_cut(LOTS_200)
        self.assertIsInstance(found, Cut)
        self.assertIs(found.shows(LOTS_200), True)
        for function in (judge_cut, first_cut, Cut("a").shows, NoCut([]).shows):
            self.refuses(TooLarge, function, LOTS_201)
        # there is a cut, but there are too many lots behind it
        self.assertTrue(any(is_cut(LOTS_201, text) for text in texts(2, 9)))
        self.assertEqual(len(judge_cut(NO_CUT_199).lots), 199)
        self.assertIs(judge_cut(NO_CUT_199).shows(NO_CUT_199), True)

    def test_long_texts(self):
        self.assertIs(is_cut(DOC_RULES, "ab" * 30000), True)

    def test_refusals(self):
        for function in (judge_cut, first_cut, Cut("a").shows, NoCut([]).shows, lambda rules: is_cut(rules, 0)):
            self.refuses_strange(BadRules, function)
            self.assertEqual(self.refuses(BadRules, function, (1, ((A, ("word", "b")),))).index, 0)
            self.refuses(TooLarge, function, MORE_RULES)
        self.refuses_strange(BadText, lambda value: is_cut(DOC_RULES, value))
        self.refuses(BadText, is_cut, DOC_RULES, "abc")


if __name__ == "__main__":
    unittest.main()
