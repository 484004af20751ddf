"""[6] pieces and what comes of them, [7] outlooks and spots, [11] edits."""

import unittest

from patternways.errors import BadEdit, BadRules, BadText, TooLarge
from patternways.readings import change, edited, outlook, pieces, spots
from patternways.rules import table_of_rules
from patternways.spots import spots_and_moves
from tests.brute import chances, come, good_rules, read, text_spots, texts, view
from tests.case import (DOC_RULES, FAR_RULES, FORTY_RULES, MORE_RULES, NO_RULES, SPOTS_200, SPOTS_201, TWOS, Case)

A, B = ("one", "a"), ("one", "b")
MANY = ("again", A, 1, None, "many")
LONG = {1: 9, 2: 6, 3: 4}
BAD_EDITS = [None, True, (), (0, 0), (0, 0, "", 0), [0, 0, ""], (-1, 0, ""), (4, 0, ""), (0, -1, ""), (0, 4, ""),
             (2, 2, ""), (3, 1, "a"), (True, 0, ""), (0, True, ""), (False, 0, ""), (0, False, ""), (None, 0, ""),
             (0, 0, None), (0, 0, "c"), (0, 0, ["a"]), (0, 0, ("a",)), (0, 0, 0), ("0", 0, ""), (0, "0", ""),
             ((0,), 0, ""), (10 ** 20, 0, ""), "ab", ("edit", 0, 0, "")]


def edit_plainly(rules, text, edit):
    """What edited returns, from pieces read anew."""
    place, gone, put = edit
    later = text[:place] + put + text[place + gone:]
    before, after = read(rules, text), read(rules, later)
    first = 0
    while before[first:] and after[first:] and before[first] == after[first]:
        first += 1
    before, after = before[first:], after[first:]
    last, shift = 0, len(later) - len(text)
    while before and after and after[-1] == (before[-1][0], before[-1][1] + shift, before[-1][2] + shift):
        before, after, last = before[:-1], after[:-1], last + 1
    return first, after, last


class Reading(Case):
    def test_plain(self):
        self.assertEqual(pieces(DOC_RULES, ""), [])
        self.assertEqual(change(DOC_RULES, ""), "")
        self.assertEqual(pieces(DOC_RULES, "aab"), [(0, 0, 3)])
        self.assertEqual(pieces(DOC_RULES, "aaa"), [(None, 0, 1), (None, 1, 2), (None, 2, 3)])
        self.assertEqual(change(DOC_RULES, "aaba"), "a")
        self.assertEqual(change(DOC_RULES, "bab"), "abbaabb")

    def test_no_words_and_only_the_empty_one(self):
        for rules in (NO_RULES, (2, ((("empty",), ("word", "a")), (("again", ("none",), 0, None, "few"), ("word", "b"))))):
            self.assertEqual(pieces(rules, "aba"), [(None, 0, 1), (None, 1, 2), (None, 2, 3)])
            self.assertEqual(change(rules, "aba"), "aba")
            self.assertEqual(outlook(rules, "aba"), (None,))
            self.assertEqual(spots(rules), [(None, (None,))])

    def test_puts(self):
        for put, expected in [(("word", ""), "b"), (("word", "bab"), "babbbab"), (("round", "", ""), "aaba"),
                              (("round", "aba", "b"), "abaaabbabaab")]:
            self.assertEqual(change((2, ((MANY, put),)), "aaba"), expected)

    def test_four_rules(self):
        rules = (3, ((("row", A, B), ("word", "c")), (("row", A, B, ("one", "c")), ("word", "")), (("one", "ab"), ("word",
                 "ccc")), (A, ("word", "aaa"))))
        self.assertEqual(pieces(rules, "abcabacb"), [(1, 0, 3), (0, 3, 5), (2, 5, 6), (None, 6, 7), (2, 7, 8)])
        self.assertEqual(change(rules, "abcabacb"), "cccccccc")

    def test_ways_make_no_difference(self):
        few = (2, ((("again", A, 1, None, "few"), ("word", "")),))
        self.assertEqual(pieces(few, "aaab"), [(0, 0, 3), (None, 3, 4)])

    def test_made_up_rules(self):
        for chance in chances(100):
            size = chance.choice([1, 2, 3])
            rules = good_rules(chance, size)
            table = table_of_rules(rules)
            with self.subTest(rules=rules):
                for text in texts(size, LONG[size]):
                    self.assertEqual(pieces(rules, text), read(rules, text))
                    self.assertEqual(change(rules, text), come(rules, text))
                    self.assertEqual(outlook(rules, text), view(table, text))

    def test_long_texts(self):
        self.assertEqual(len(pieces(FAR_RULES, "a" * 50000)), 50000)
        self.assertEqual(pieces(FAR_RULES, "a" * 50000 + "b"), [(0, 0, 50001)])

    def test_refusals(self):
        for function in (pieces, change, outlook):
            self.assertIsNone(self.refuses(BadRules, function, None, "a").index)
            self.assertEqual(self.refuses(BadRules, function, (2, ((A, 0),)), "c").index, 0)
            self.refuses(TooLarge, function, MORE_RULES, "c")
            self.refuses(BadText, function, DOC_RULES, "abc")
            self.refuses_strange(BadText, lambda value, function=function: function(DOC_RULES, value))

    def test_answers_are_new(self):
        first = pieces(DOC_RULES, "aab")
        first.append(0)
        self.assertEqual(pieces(DOC_RULES, "aab"), [(0, 0, 3)])


class Outlooks(Case):
    def test_plain(self):
        self.assertEqual(outlook(DOC_RULES, ""), (None,) * 6)
        self.assertEqual(outlook(DOC_RULES, "b"), (1, None, None, 0, None, None))
        self.assertEqual(outlook(DOC_RULES, "ab"), (None, 0, None, None, None, None))
        self.assertEqual(outlook(FAR_RULES, "aab"), (0, 0, None, None))

    def test_the_longest_beginning_counts(self):
        rules = (2, ((A, ("word", "")), (("row", A, A, B), ("word", ""))))
        self.assertEqual([outlook(rules, text)[0] for text in ("a", "aa", "aab", "b", "aaba")], [0, 0, 1, None, 1])

    def test_forty_stands_and_more(self):
        self.assertEqual(len(outlook(FORTY_RULES, "abc")), 40)


class Spots(Case):
    def test_plain(self):
        self.assertEqual(sorted(map(str, spots(TWOS))), sorted(map(str, [
            (None, (None, None, None, None)), (None, (None, 0, None, None)), (None, (0, 0, None, None)),
            (1, (0, 0, None, None)), (1, (None, 0, None, None))])))

    def test_made_up_rules(self):
        # enough letters for all spots, and all ways of letters between them, of rules with few spots
        compared = 0
        for chance in chances(60, 500):
            size = chance.choice([1, 2])
            rules = good_rules(chance, size)
            table = table_of_rules(rules)
            found, moves = spots_and_moves(table)
            if len(found) > 7:
                continue
            compared += 1
            met, gone = set(), set()
            for text in texts(size, {1: 16, 2: 9}[size]):
                along = text_spots(rules, table, text)
                met |= set(along)
                gone |= set(zip(along, text, along[1:]))
            with self.subTest(rules=rules):
                self.assertEqual(len(spots(rules)), len(set(spots(rules))))
                self.assertEqual(set(spots(rules)), met)
                self.assertEqual(gone, {(found[one], "abc"[letter], found[other]) for one in range(len(found))
                                        for letter in range(size) for other in range(len(found))
                                        if moves[one][letter] >> other & 1})
        self.assertGreater(compared, 30)

    def test_all_places_are_at_spots(self):
        for rules in (DOC_RULES, FAR_RULES, SPOTS_200):
            table, found = table_of_rules(rules), set(spots(rules))
            for text in texts(rules[0], 5):
                self.assertLessEqual(set(text_spots(rules, table, text)), found)

    def test_two_hundred_and_more(self):
        self.assertEqual(len(spots(SPOTS_200)), 200)
        self.refuses(TooLarge, spots, SPOTS_201)

    def test_refusals(self):
        self.assertEqual(self.refuses(BadRules, spots, (1, ((A, ("word", "")), None))).index, 1)
        self.refuses_strange(BadRules, spots)
        self.refuses(TooLarge, spots, MORE_RULES)


class Edits(Case):
    def test_nothing_changes(self):
        self.assertEqual(edited(DOC_RULES, "aaabb", (2, 0, "")), (3, [], 0))
        self.assertEqual(edited(DOC_RULES, "aaabb", (0, 5, "aaabb")), (3, [], 0))
        self.assertEqual(edited(DOC_RULES, "", (0, 0, "")), (0, [], 0))
        # a kept letter is the same piece as another one at its place
        self.assertEqual(edited(NO_RULES, "aba", (1, 1, "a")), (3, [], 0))

    def test_both_ends(self):
        self.assertEqual(edited(DOC_RULES, "aab", (0, 0, "b")), (0, [(1, 0, 1)], 1))
        self.assertEqual(edited(DOC_RULES, "aab", (3, 0, "b")), (1, [(1, 3, 4)], 0))
        self.assertEqual(edited(DOC_RULES, "aab", (0, 3, "")), (0, [], 0))
        self.assertEqual(edited(DOC_RULES, "", (0, 0, "aab")), (0, [(0, 0, 3)], 0))
        self.assertEqual(edited(NO_RULES, "aa", (0, 0, "a")), (2, [(None, 2, 3)], 0))
        self.assertEqual(edited(NO_RULES, "aaa", (0, 1, "")), (2, [], 0))

    def test_all_pieces_behind_it_change(self):
        text = "a" * 8
        self.assertEqual(edited(TWOS, text, (0, 0, "a")), (4, [(None, 8, 9)], 0))
        twos = (2, ((("row", A, A), ("word", "a")),))
        self.assertEqual(edited(twos, "b" + text, (0, 1, "a")), (0, [(0, 0, 2), (0, 2, 4), (0, 4, 6), (0, 6, 8),
                                                                     (None, 8, 9)], 0))
        self.assertEqual(edited(FAR_RULES, text, (8, 0, "b")), (0, [(0, 0, 9)], 0))
        self.assertEqual(edited(FAR_RULES, text + "b", (8, 1, "")), (0, [(None, k, k + 1) for k in range(8)], 0))

    def test_made_up_edits(self):
        for chance in chances(200):
            size = chance.choice([1, 2, 3])
            rules = good_rules(chance, size)
            words = texts(size, LONG[size])
            for _ in range(10):
                text, put = chance.choice(words), chance.choice(words[:20])
                place = chance.randint(0, len(text))
                edit = (place, chance.randint(0, len(text) - place), put)
                with self.subTest(rules=rules, text=text, edit=edit):
                    self.assertEqual(edited(rules, text, edit), edit_plainly(rules, text, edit))

    def test_refusals(self):
        for edit in BAD_EDITS:
            with self.subTest(edit=edit):
                self.refuses(BadEdit, edited, DOC_RULES, "aab", edit)
        self.refuses_strange(BadEdit, lambda value: edited(DOC_RULES, "aab", value))
        self.refuses(BadText, edited, DOC_RULES, "abc", None)
        self.refuses(BadText, edited, DOC_RULES, ["a"], (0, 0, ""))
        self.refuses(TooLarge, edited, MORE_RULES, "abc", None)
        self.assertEqual(self.refuses(BadRules, edited, (2, (0,)), "abc", None).index, 0)


if __name__ == "__main__":
    unittest.main()
