"""[16] Rows alike."""

import unittest

from patternways.alike import Differ, Match, are_alike, compare
from patternways.errors import BadRow, TooLarge, Unequal
from patternways.rows import changed, rests
from tests.brute import chances, few_row, texts
from tests.brute_rows import Rests, match_plainly, row_change
from tests.case import DOC_RULES, FAR_RULES, TWOS, Case
from tests.row_case import (A, B, BAD_ROWS, DROP, LAG, LARGE_ROWS, MANY_A, MARK, NOTHING, PAIRS, PARTED_600, PARTED_601,
                            RESTS_40, RESTS_41, SAME_600, SAME_601, SWAP, TWO_40, TWO_41, around, word)

LONG = {1: 8, 2: 5, 3: 3}
# two ways to take each a that is ahead of a b away
AHEAD = (2, ((("row", A, B), ("word", "b")),))
AHEAD_MANY = (2, (word(("row", A, MANY_A, B), "b"),))


class Rows(Case):
    def match(self, one, other):
        """The two rows are alike, and what shows it does."""
        found = compare(one, other)
        self.assertIsInstance(found, Match)
        self.assertIs(found.shows(one, other), True)
        self.assertIs(are_alike(one, other), True)
        self.assertEqual(match_plainly(one, other, found.rests), found.ahead)
        self.assertTrue(Rests([one, other], found.rests).are_rests())
        return found

    def differ(self, one, other):
        """The two rows part, and what shows it does."""
        found = compare(one, other)
        self.assertIsInstance(found, Differ)
        self.assertIs(found.shows(one, other), True)
        self.assertIs(are_alike(one, other), False)
        self.assertNotEqual(row_change(one, found.text), row_change(other, found.text))
        return found

    def test_plain(self):
        self.match((SWAP, SWAP), (NOTHING,))
        self.match((SWAP, SWAP, SWAP), (SWAP,))
        self.match((DROP,), (DROP, DROP))
        self.match((DROP,), (DROP, DROP, DROP))
        self.match((NOTHING, DROP), (DROP, NOTHING, NOTHING))
        self.assertEqual(compare((SWAP,), (NOTHING,)), Differ("a"))
        self.differ((DROP, SWAP), (SWAP, DROP))
        self.differ((MARK,), (MARK, MARK))

    def test_a_row_and_itself(self):
        for row in [(SWAP,), (LAG,), (DOC_RULES,), (MARK, DROP), (LAG, MARK), (PAIRS, PAIRS, LAG), (TWOS,), (FAR_RULES,)]:
            self.match(row, row)

    def test_rows_that_are_ahead_of_each_other(self):
        # what the one puts at the end of a piece, the other one keeps as it is read
        whole = (2, (around(("row", A, A, B), "", ""), around(("row", A, B), "", "")))
        found = self.match((whole,), (NOTHING,))
        self.assertEqual({pair for pair in found.ahead.values()}, {("", "")})
        late = (2, (word(("row", A, A, B), "aab"),))
        found = self.match((late,), (NOTHING,))
        self.assertEqual({pair for pair in found.ahead.values()}, {("", ""), ("", "a"), ("", "aa")})
        found = self.match((NOTHING, NOTHING), (late,))
        self.assertEqual({pair for pair in found.ahead.values()}, {("", ""), ("a", ""), ("aa", "")})

    def test_rows_that_part_in_long_texts_alone(self):
        # seven a and a b
        late = (2, (word(("row", ("again", A, 3, 3, "many"), ("again", A, 3, 3, "many"), A, B), "bbb"),))
        self.assertEqual(compare((late,), (NOTHING,)), Differ("aaaaaaab"))
        self.differ((NOTHING, late), (NOTHING,))
        # and at the empty text no rows part
        self.assertEqual(changed((MARK, SWAP, DROP), ""), "")
        self.assertIs(Differ("").shows((SWAP,), (NOTHING,)), False)

    def test_rows_that_part_at_the_end(self):
        # the last a is kept, or not, by what is ahead of it
        ones = (2, ((A, ("word", "")), (B, ("word", "b"))))
        self.differ((DROP,), (PAIRS,))
        self.match((DROP,), (ones,))
        self.differ((AHEAD,), (AHEAD_MANY,))
        self.match((AHEAD_MANY,), (AHEAD_MANY, AHEAD))

    def test_made_up_rows(self):
        counts = {Match: 0, Differ: 0}
        for chance in chances(250, 40):
            size = chance.choice([1, 2, 2, 3])
            one, other = [few_row(chance, size, chance.choice([1, 1, 2, 3])) for _ in range(2)]
            if chance.random() < 0.4:
                other = chance.choice([one, (*one, one[-1])[:3], (one[0], *one)[:3]])
            try:
                found = compare(one, other)
            except TooLarge:
                continue
            counts[type(found)] += 1
            with self.subTest(one=one, other=other):
                self.assertEqual(found, compare(one, other))
                parted = [text for text in texts(size, LONG[size]) if row_change(one, text) != row_change(other, text)]
                if isinstance(found, Match):
                    self.assertEqual(parted, [])
                    self.match(one, other)
                else:
                    self.differ(one, other)
                    self.assertTrue(all(Differ(text).shows(one, other) for text in parted[:5]))
        self.assertGreater(min(counts.values()), 30)


class Evidence(Case):
    def test_match_shows(self):
        late = (2, (word(("row", A, A, B), "aab"),))
        found = compare((late,), (NOTHING,))
        ahead = found.ahead
        triple = [triple for triple, pair in ahead.items() if pair == ("", "aa")][0]
        first = (0, (None,), (None,))
        fewer = [{other: ahead[other] for other in ahead if other != one} for one in ahead]
        more = [{**ahead, other: ("", "")} for other in [
            (len(found.rests), (None,), (None,)), (-1, (None,), (None,)), (0, (1,), (None,)), (0, (None,), (0,)),
            (0, (None,), ()), (0, None, (None,)), None, (), (0, (None,)), (0, (None, None), (None,))]]
        for key in [(False, (None,), (None,)), (0, (None,), None)]:
            more.append({**{other: ahead[other] for other in ahead if other != first}, key: ("", "")})
        true = (triple[0], (True,), triple[2])
        if triple[1] == (1,):
            more.append({**{other: ahead[other] for other in ahead if other != triple}, true: ahead[triple]})
        other = [{**ahead, triple: pair} for pair in [("", ""), ("aa", ""), ("a", "aaa"), ("", "a"), ("", "b"), None,
                                                      ["", "aa"], ("", "aa", ""), "aa", ("",)]]
        self.shows_only_as_made(found, ((late,), (NOTHING,)), {
            "rests": [[], found.rests[1:], found.rests[:-1], found.rests + ["a"], found.rests + [""], [""], None,
                      found.rests[:-1] + ["c"], found.rests[:-1] + [None], found.rests[::-1], tuple(found.rests)[:2],
                      found.rests[:-1] + [found.rests[0]]],
            "ahead": [{}, None, list(ahead.items()), *fewer, *more, *other, {**ahead, first: ("a", "a")}]})

    def test_the_first_row_is_ahead_of_the_other_in_triples(self):
        late = (2, (word(("row", A, A, B), "aab"),))
        found = compare((late,), (NOTHING,))
        self.assertIs(found.shows((NOTHING,), (late,)), False)
        turned = {(index, other, one): (second, first) for (index, one, other), (first, second) in found.ahead.items()}
        self.assertIs(Match(found.rests, turned).shows((NOTHING,), (late,)), True)
        self.assertIs(found.shows((late,), (NOTHING, NOTHING)), False)
        self.assertIs(found.shows((LAG,), (NOTHING,)), False)
        self.assertIs(compare((LAG,), (LAG,)).shows((LAG,), (NOTHING,)), False)

    def test_other_rests(self):
        for one, other in [((LAG,), (LAG,)), ((SWAP, SWAP), (NOTHING,)), ((MARK, DROP), (MARK, DROP))]:
            found = compare(one, other)
            known = Rests([one, other], found.rests)
            # longer texts with the same prospects, in another order, and the dict in another order
            longer = [""] + [max([text for text in texts(2, 6) if known.known[known.seen(text)] == index])
                             for index in range(1, len(found.rests))]
            longer.reverse()
            self.assertNotEqual(longer, found.rests)
            turned = len(longer) - 1
            ahead = {(turned - triple[0], *triple[1:]): found.ahead[triple] for triple in reversed(found.ahead)}
            self.assertIs(Match(longer, ahead).shows(one, other), True)
            self.assertEqual(match_plainly(one, other, longer), ahead)
            if ahead != found.ahead:
                self.assertIs(Match(longer, found.ahead).shows(one, other), False)
            # a text with the prospects of the empty one does not stand for it
            beside = [text for text in texts(2, 5) if text and known.known[known.seen(text)] == 0]
            if beside:
                self.assertIs(Match([beside[0] if text == "" else text for text in longer], ahead).shows(one, other), False)

    def test_differ_shows(self):
        found = compare((SWAP,), (NOTHING,))
        self.shows_only_as_made(found, ((SWAP,), (NOTHING,)), {"text": ["", None, "c", 0, ["a"], ("a",), b"a"]})
        for text in texts(2, 5):
            self.assertIs(Differ(text).shows((DROP,), (PAIRS,)), row_change((DROP,), text) != row_change((PAIRS,), text))
        self.assertIs(Differ("ab" * 5000).shows((DROP, SWAP), (SWAP, DROP)), True)
        self.assertIs(Differ("a").shows((SWAP, SWAP), (NOTHING,)), False)

    def test_equality_and_copies(self):
        self.assertTrue(Match([""], {}) == Match(("",), {}))
        self.assertTrue(Match([""], {}) != Match([], {}))
        self.assertTrue(Match([""], {}) != Match([""], {(0, (), ()): ("", "")}))
        self.assertTrue(Match([""], {}) != Differ(""))
        self.assertTrue(Differ("") == Differ(""))
        self.assertTrue(Differ("") != Differ("a"))
        self.assertTrue(Differ("") != Match([""], {}))
        given = [""], {(0, (), ()): ("", "")}
        found = Match(*given)
        given[0].append("a")
        given[1].clear()
        self.assertEqual(found, Match([""], {(0, (), ()): ("", "")}))
        self.assertEqual(Match(("",), {}).rests, [""])
        first = compare((SWAP, SWAP), (NOTHING,))
        first.rests.clear()
        first.ahead.clear()
        self.assertNotEqual(compare((SWAP, SWAP), (NOTHING,)), first)


class Limits(Case):
    functions = (compare, are_alike, Match([""], {}).shows, Differ("a").shows)

    def test_refusals(self):
        for function in self.functions:
            for row in BAD_ROWS:
                self.refuses(BadRow, function, row, (SWAP,))
                self.refuses(BadRow, function, (SWAP,), row)
                self.refuses(BadRow, function, LARGE_ROWS[0], row)
            self.refuses(BadRow, function, (TWOS,), (SWAP, 0))
            for row in LARGE_ROWS:
                self.refuses(Unequal, function, row, (TWOS,))
                self.refuses(Unequal, function, (TWOS,), row)
                self.refuses(TooLarge, function, row, (SWAP,))
                self.refuses(TooLarge, function, (SWAP,), row)
            self.refuses(Unequal, function, RESTS_41[0], (SWAP,))

    def test_forty_rests(self):
        for row in RESTS_41:
            for function in self.functions:
                self.refuses(TooLarge, function, row, row)
                self.refuses(TooLarge, function, row, ((row[0][0], NOTHING[1]),))
        # each of them alone needs no more than 40
        for row in TWO_41:
            self.assertLessEqual(len(rests(row)), 40)
        for function in self.functions:
            self.refuses(TooLarge, function, *TWO_41)
            self.refuses(TooLarge, function, *reversed(TWO_41))
        found = compare(*TWO_40)
        self.assertIs(found.shows(*TWO_40), True)
        self.assertLess(max(len(rests(row)) for row in TWO_40), 40)
        for row in RESTS_40[:2]:
            self.assertEqual(len(compare(row, row).rests), 40)

    def test_six_hundred_triples(self):
        found = compare(SAME_600, SAME_600)
        self.assertEqual(len(found.ahead), 600)
        self.assertIs(found.shows(SAME_600, SAME_600), True)
        self.assertEqual(len(match_plainly(SAME_600, SAME_600, found.rests)), 600)
        for function in self.functions:
            self.refuses(TooLarge, function, SAME_601, SAME_601)

    def test_six_hundred_triples_of_rows_that_part(self):
        self.assertIs(compare(*PARTED_600).shows(*PARTED_600), True)
        self.assertIsInstance(compare(*PARTED_600), Differ)
        one, other = PARTED_601
        self.assertTrue(any(row_change(one, text) != row_change(other, text) for text in texts(2, 3)))
        for function in self.functions:
            self.refuses(TooLarge, function, *PARTED_601)


if __name__ == "__main__":
    unittest.main()
