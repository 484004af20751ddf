"""[8] Looks, and behind how many letters pieces are sure."""

import unittest

from patternways.errors import BadNumber, BadRules, BadText, TooLarge
from patternways.looks import Endless, Look, judge_look, look, sure
from patternways.readings import pieces
from patternways.rules import table_of_rules
from tests.brute import chances, good_rules, read, texts
from tests.case import DOC_RULES, FAR_RULES, FORTY_RULES, MORE_RULES, NO_RULES, TWOS, Case

A, B = ("one", "a"), ("one", "b")
LONG = {1: 8, 2: 4, 3: 3}
# aa or aabab: behind aa three letters more are needed to know
LATE = (2, ((("row", A, A), ("word", "")), (("row", ("row", A, A), B, A, B), ("word", ""))))


def sure_plainly(rules, text, piece, ahead):
    """Behind how many letters a piece of a text is sure, as far as texts with so many letters more tell."""
    for number in range(piece[2], len(text) + 1):
        if all(piece in read(rules, text[:number] + more) for more in ahead):
            return number
    return None


class Sure(Case):
    def test_plain(self):
        self.assertEqual([sure(DOC_RULES, "aaab", 0), sure(DOC_RULES, "aaab", 1)], [3, 4])
        self.assertEqual([sure(DOC_RULES, "aa", number) for number in (0, 1)], [None, None])
        self.assertEqual([sure(NO_RULES, "ab", number) for number in (0, 1)], [1, 2])
        self.assertEqual([sure(LATE, text, 0) for text in ("aa", "aab", "aaa", "aaba", "aabab", "aabaa")],
                         [None, None, 3, None, 5, 5])

    def test_what_is_ahead_is_to_be_sure_too(self):
        self.assertEqual([sure(DOC_RULES, "ab", number) for number in (0, 1)], [2, 2])
        self.assertEqual([sure(FAR_RULES, "aaaa", number) for number in range(4)], [None] * 4)
        self.assertEqual(pieces(FAR_RULES, "baa"), [(None, 0, 1), (None, 1, 2), (None, 2, 3)])
        self.assertEqual([sure(FAR_RULES, "baa", number) for number in range(3)], [1, None, None])

    def test_made_up_rules(self):
        compared = 0
        for chance in chances(80):
            size = chance.choice([1, 2, 3])
            rules = good_rules(chance, size)
            if len(table_of_rules(rules)[0]) > LONG[size] + 2:
                continue
            compared += 1
            ahead = texts(size, LONG[size] + 1)
            for text in texts(size, LONG[size]):
                for number, piece in enumerate(read(rules, text)):
                    with self.subTest(rules=rules, text=text, number=number):
                        self.assertEqual(sure(rules, text, number), sure_plainly(rules, text, piece, ahead))
        self.assertGreater(compared, 40)

    def test_long_texts(self):
        self.assertEqual(sure(DOC_RULES, "aab" * 20000, 19999), 60000)
        self.assertIsNone(sure(FAR_RULES, "a" * 20000, 0))

    def test_refusals(self):
        for number in [-1, 2, 10 ** 20, True, False, None, "0", (0,), [0]]:
            self.refuses(BadNumber, sure, DOC_RULES, "ab", number)
        self.refuses(BadNumber, sure, DOC_RULES, "", 0)
        self.refuses_strange(BadText, lambda value: sure(DOC_RULES, value, 0))
        self.refuses(BadText, sure, DOC_RULES, "abc", None)
        self.refuses(TooLarge, sure, MORE_RULES, "abc", None)
        self.assertEqual(self.refuses(BadRules, sure, (1, (None,)), "abc", None).index, 0)


class Looks(Case):
    def test_plain(self):
        self.assertEqual([look(DOC_RULES), look(NO_RULES), look(TWOS), look(FAR_RULES), look(LATE)], [2, 0, 1, None, 3])
        self.assertEqual(look((1, ((A, ("word", "")),))), 0)
        self.assertEqual(look((1, ((("again", A, 1, None, "many"), ("word", "")),))), 1)
        self.assertEqual(judge_look(NO_RULES), Look(0, None, None, {}))

    def test_no_look_from_a_ring_behind_a_piece(self):
        rules = (2, ((A, ("word", "")), (("row", A, ("again", B, 0, None, "few"), A), ("word", ""))))
        found = judge_look(rules)
        self.assertIsInstance(found, Endless)
        self.assertIsNone(look(rules))
        self.assertIs(found.shows(rules), True)

    def test_rings_beside_what_comes_to_an_end(self):
        many = ("again", B, 0, None, "many")
        for rules in [(2, ((("row", A, A), ("word", "")), (("row", B, ("again", A, 0, None, "many"), B), ("word", "")))),
                      (2, ((("row", B, many, ("row", A, A)), ("word", "")),)),
                      (2, ((A, ("word", "")), (("row", A, B, many, ("row", A, A)), ("word", "")))),
                      (2, ((("one", "b"), ("word", "")), (("row", A, A, many, A), ("word", ""))))]:
            found = judge_look(rules)
            self.assertIsInstance(found, Endless)
            self.assertIs(found.shows(rules), True)
            self.assertIsNone(look(rules))

    def test_made_up_rings(self):
        # what shows in texts is what Endless is asked to show
        counts = {True: 0, False: 0}
        words = texts(2, 3)
        for chance in chances(60):
            parts = [self.row_of(chance.choice(words[1:7])) for _ in range(5)]
            ring = ("row", parts[0], ("again", parts[1], 0, None, "many"), parts[2])
            rules = (2, ((ring, ("word", "")), (("row", parts[3], parts[4]), ("word", ""))))
            found = judge_look(rules)
            self.assertIs(found.shows(rules), True)
            ahead, ring, rest = (found.ahead, found.ring, found.rest) if isinstance(found, Endless) else words[1:4]
            choices = [[ahead, ahead + ring, ahead + ring * 2], [ring, ring * 2], [rest, ring + rest, rest + ring]]
            for _ in range(30):
                ahead, ring, rest = [chance.choice(some + [chance.choice(words)]) for some in choices]
                expected = self.is_endless_plainly(rules, ahead, ring, rest)
                counts[expected] += 1
                with self.subTest(rules=rules, texts=(ahead, ring, rest)):
                    self.assertIs(Endless(ahead, ring, rest).shows(rules), expected)
        self.assertGreater(min(counts.values()), 20)

    def row_of(self, text):
        parts = [("one", letter) for letter in text]
        return parts[0] if len(parts) == 1 else ("row", *parts)

    def is_endless_plainly(self, rules, ahead, ring, rest):
        """What the document asks of an Endless, with the table of the rules."""
        rows, labels = table_of_rules(rules)
        stands = [0]
        for letter in ahead + ring + rest:
            stands.append(rows[stands[-1]]["ab".index(letter)])
        if not ahead or not ring or stands[len(ahead)] != stands[len(ahead + ring)] or labels[stands[-1]] is None:
            return False
        past = read(rules, ahead)[0][2]
        return all(labels[stand] is None for stand in stands[past + 1:len(ahead + ring) + 1])

    def test_made_up_rules(self):
        numbers = set()
        for chance in chances(300):
            size = chance.choice([1, 2, 3])
            rules = good_rules(chance, size)
            found = judge_look(rules)
            with self.subTest(rules=rules):
                self.assertIs(found.shows(rules), True)
                self.assertEqual(found, judge_look(rules))
                numbers.add(look(rules))
                if isinstance(found, Look):
                    self.assertEqual(look(rules), found.number)
                    for text in texts(size, LONG[size]):
                        for number, (_, _, past) in enumerate(pieces(rules, text)):
                            if past + found.number <= len(text):
                                self.assertLessEqual(sure(rules, text, number), past + found.number)
                    if found.number > 0:
                        number = pieces(rules, found.text).index(found.piece)
                        self.assertIsNone(sure(rules, found.text, number))
                        self.assertEqual(len(found.text), found.piece[2] + found.number - 1)
                else:
                    self.assertIsNone(look(rules))
                    for many in range(4):
                        self.assertIsNone(sure(rules, found.ahead + found.ring * many, 0))
        self.assertLessEqual({None, 0, 1, 2, 3}, numbers)

    def test_look_shows(self):
        found = judge_look(DOC_RULES)
        self.assertEqual(found, Look(2, "aa", (None, 0, 1), {1: 1, 3: 0}))
        self.shows_only_as_made(found, (DOC_RULES,), {
            "number": [0, 1, 3, -1, True, None],
            "text": [None, "", "a", "aaa", "ab", "ba", "c", 5],
            "piece": [None, (None, 1, 2), (0, 0, 1), (None, 0, 2), (False, 0, 1), (None, False, 1), (None, 0, True),
                      [None, 0, 1], (None, 0)],
            "heights": [None, [1, 3], {}, {1: 1}, {3: 0}, {1: 0, 3: 0}, {1: 1, 3: 1}, {1: 2, 3: 0}, {1: 1, 3: -1}, {1: 1, 3: False},
                        {True: 1, 3: 0}, {1: 1, 3: 0, 6: 0}, {1: 1, 3: 0, None: 0}, {1: 1, 3: 0, 0: 0}, {1: 1, 3: None},
                        {1: 1, 3: 0, -1: 0}]})

    def test_other_looks_that_show(self):
        # pieces further behind, a height of a stand that need not be there, and one that is greater than needed
        self.assertIs(Look(2, "baabaa", (None, 4, 5), {3: 0, 1: 1, 5: 0, 2: 1}).shows(DOC_RULES), True)
        self.assertIs(Look(2, "baabaa", (None, 5, 6), {3: 0, 1: 1}).shows(DOC_RULES), False)
        self.assertIs(Look(3, "aaba", (0, 0, 2), judge_look(LATE).heights).shows(LATE), True)
        self.assertIs(Look(3, "aaba", (False, 0, 2), judge_look(LATE).heights).shows(LATE), False)
        self.assertIs(Look(0, None, None, {}).shows(NO_RULES), True)
        self.assertIs(Look(0, "", None, {}).shows(NO_RULES), False)
        self.assertIs(Look(0, None, (None, 0, 1), {}).shows(NO_RULES), False)
        self.assertIs(Look(0, None, None, {0: 0}).shows(NO_RULES), False)
        self.assertIs(Look(1, "a", (None, 0, 1), {0: 0}).shows(NO_RULES), False)
        self.assertIs(Look(0, None, None, {}).shows(DOC_RULES), False)
        self.assertIs(Look(2, "aa", (None, 0, 1), {1: 1, 3: 0}).shows(FAR_RULES), False)

    def test_endless_shows(self):
        found = judge_look(FAR_RULES)
        self.assertEqual(found, Endless("a", "a", "b") if found.ahead == "a" else Endless("aa", "a", "b"))
        self.shows_only_as_made(found, (FAR_RULES,), {
            "ahead": ["", None, "b", "ba", "aab", "c", 0, ["a"]], "ring": ["", None, "b", "ab", "ac", 1],
            "rest": ["", None, "a", "ba", "c", ("b",)]})

    def test_other_endless_that_show(self):
        self.assertIs(Endless("aaa", "aa", "aab").shows(FAR_RULES), True)
        self.assertIs(Endless("a", "a", "b").shows(DOC_RULES), False)
        # in these rules the ring comes by a stand with a label
        rules = (1, ((("again", ("row", A, A), 1, None, "many"), ("word", "")),))
        self.assertEqual(look(rules), 2)
        self.assertIs(Endless("a", "aa", "a").shows(rules), False)
        ring = (2, ((A, ("word", "")), (("row", A, ("again", B, 1, None, "few"), A), ("word", ""))))
        self.assertIs(Endless("ab", "b", "a").shows(ring), True)
        self.assertIs(Endless("abb", "bbb", "bba").shows(ring), True)
        self.assertIs(Endless("a", "b", "a").shows(ring), False)
        self.assertIs(Endless("ab", "b", "b").shows(ring), False)

    def test_equality_and_copies(self):
        self.assertTrue(Look(0, None, None, {}) != Endless(0, None, None))
        self.assertTrue(Endless(0, None, None) != Look(0, None, None, {}))
        self.assertTrue(Look(0, None, None, {}) == Look(0, None, None, {}))
        for other in (Look(1, None, None, {}), Look(0, "", None, {}), Look(0, None, (0, 0, 1), {}),
                      Look(0, None, None, {0: 0})):
            self.assertTrue(Look(0, None, None, {}) != other)
        for other in (Endless("b", "a", "b"), Endless("a", "b", "b"), Endless("a", "a", "a")):
            self.assertTrue(Endless("a", "a", "b") != other)
        heights = {1: 1, 3: 0}
        found = Look(2, "aa", (None, 0, 1), heights)
        heights[1] = 7
        self.assertEqual(found.heights, {1: 1, 3: 0})
        judge_look(DOC_RULES).heights.clear()
        self.assertEqual(judge_look(DOC_RULES).heights, {1: 1, 3: 0})

    def test_forty_stands_and_more(self):
        self.assertIs(judge_look(FORTY_RULES).shows(FORTY_RULES), True)

    def test_refusals(self):
        for function in (judge_look, look, Look(0, None, None, {}).shows, Endless("a", "a", "a").shows):
            self.refuses_strange(BadRules, function)
            self.assertEqual(self.refuses(BadRules, function, (1, ((A, ("word", "")), [A, A]))).index, 1)
            self.refuses(TooLarge, function, MORE_RULES)


if __name__ == "__main__":
    unittest.main()
