"""[14] Rows, changes, standings, and [15] prospects and rests."""

import unittest

from patternways.errors import BadPlace, BadRow, BadText, TooLarge
from patternways.readings import change, outlook
from patternways.rows import changed, check_row, prospects, rests, standing
from tests.brute import chances, few_row, texts
from tests.brute_rows import Rests, row_change, row_prospects, row_standing, table_for
from tests.case import DOC_RULES, MORE_RULES, Case
from tests.row_case import (A, B, BAD_ROWS, DROP, LAG, LARGE_ROWS, MARK, NOTHING, PAIRS, RESTS_40, RESTS_41, SWAP,
                            around, word)

LONG = {1: 8, 2: 5, 3: 3}
BAD_PLACES = [-1, 4, 10 ** 20, True, False, None, "0", (0,), [1]]


def made_up(many, start=0):
    """Rows that are made up, with texts of their size."""
    for chance in chances(many, start):
        size = chance.choice([1, 2, 2, 3])
        yield few_row(chance, size, chance.choice([1, 2, 2, 3])), texts(size, LONG[size])


class Changes(Case):
    def test_plain(self):
        self.assertEqual([changed((MARK, SWAP), text) for text in ("", "a", "aab", "b")], ["", "b", "abbab", "aab"])
        self.assertEqual([changed((SWAP, MARK), text) for text in ("", "a", "aab", "bba")], ["", "bba", "bbabbaa", "baaba"])
        again = (2, (around(A, "", "b"),))
        self.assertEqual([changed((again,) * many, "a") for many in (1, 2, 3)], ["ab", "abb", "abbb"])
        self.assertEqual(changed((DROP, DROP, SWAP), "abaab"), "aa")

    def test_made_up_rows(self):
        for row, some in made_up(80):
            for text in some:
                with self.subTest(row=row, text=text):
                    self.assertEqual(changed(row, text), row_change(row, text))
            self.assertEqual(changed(row[:1], some[-1]), change(row[0], some[-1]))

    def test_prospects_are_not_counted(self):
        for row in RESTS_41:
            self.assertEqual(changed(row, "abab"), row_change(row, "abab"))
            self.assertEqual(standing(row, "abab", 3), row_standing(row, "abab", 3))

    def test_long_texts(self):
        self.assertEqual(changed((LAG, SWAP, DROP), "a" * 20000 + "b"), "")
        self.assertEqual(standing((LAG, SWAP), "a" * 20000, 20000), ((None, None), "b" * 20000))
        self.assertEqual(standing((LAG, SWAP), "a" * 20000 + "b", 19999)[1], "")

    def test_refusals(self):
        for row in BAD_ROWS:
            self.refuses(BadRow, changed, row, 5)
        for row in LARGE_ROWS:
            self.refuses(TooLarge, changed, row, 5)
        self.refuses_strange(BadText, lambda value: changed((SWAP, MARK), value))
        self.refuses(BadText, changed, (SWAP,), "abc")


class Standings(Case):
    def test_plain(self):
        self.assertEqual(standing((MARK, SWAP), "aab", 2), ((0, None), "abb"))
        self.assertEqual([standing((MARK, SWAP), "aab", place) for place in (0, 1, 3)],
                         [((None, None), ""), ((0, None), "ab"), ((None, None), "abbab")])

    def test_words_come_at_the_end_of_their_pieces(self):
        row = ((2, (word(("row", A, A, B), "bb"), around(("row", B, A), "a", ""))),)
        self.assertEqual([standing(row, "aab", place) for place in range(4)],
                         [((None,), ""), ((1,), ""), ((table_for(row[0])[0][1][0],), ""), ((None,), "bb")])
        self.assertEqual([standing(row, "ba", place)[1] for place in range(3)], ["", "ab", "aba"])

    def test_what_is_ahead_comes_with_the_first_letter(self):
        # of aabb, what has come behind the first letter is the text ahead, and this letter: then it is read on
        mark = (2, (around(("row", A, A, B, B), "ba", "bb"),))
        both = (mark, (2, (word(("row", B, A, A), "ab"),)))
        self.assertEqual([standing((mark,), "aabb", place)[1] for place in range(5)], ["", "baa", "baaa", "baaab", "baaabbbb"])
        self.assertEqual([standing(both, "aabb", place) for place in range(5)], [row_standing(both, "aabb", place)
                                                                                  for place in range(5)])
        self.assertEqual([standing(both, "aabb", place)[1] for place in range(5)], ["", "ab", "aba", "abab", "ababbbb"])

    def test_made_up_rows(self):
        deep = 0
        for row, some in made_up(100, 300):
            for text in some[::3]:
                for place in range(len(text) + 1):
                    with self.subTest(row=row, text=text, place=place):
                        found = standing(row, text, place)
                        self.assertEqual(found, row_standing(row, text, place))
                        self.assertTrue(changed(row, text).startswith(found[1]))
                        deep += sum(stand is not None for stand in found[0]) > 1
                self.assertEqual(standing(row, text, 0), ((None,) * len(row), ""))
                self.assertEqual(standing(row, text, len(text)), ((None,) * len(row), changed(row, text)))
        self.assertGreater(deep, 30)

    def test_refusals(self):
        for row in BAD_ROWS:
            self.refuses(BadRow, standing, row, 5, None)
        for row in LARGE_ROWS:
            self.refuses(TooLarge, standing, row, 5, None)
        self.refuses(BadText, standing, (SWAP,), "abc", None)
        self.refuses_strange(BadText, lambda value: standing((SWAP,), value, None))
        for place in BAD_PLACES:
            self.refuses(BadPlace, standing, (SWAP, MARK), "aab", place)


class Prospects(Case):
    def test_plain(self):
        self.assertEqual(prospects((MARK,), "ab"), ((0, None, None), ()))
        self.assertEqual(prospects((NOTHING, NOTHING), "ab"), ((None,), (((None,), ()), None)))

    def test_none_from_which_one_can_not_read_on(self):
        # PAIRS has stands behind no letter, behind a, all else and aa; with a one can read on from the second one alone
        nothing, later = ((0, None, None), ()), ((None, None, None), ())
        self.assertEqual(prospects((PAIRS, MARK), ""), ((None,) * 4, (later, None, None, None, None)))
        self.assertEqual(prospects((PAIRS, MARK), "a"), (outlook(PAIRS, "a"), (later, None, nothing, None, None)))
        self.assertEqual(prospects((PAIRS, MARK), "aa"),
                         (outlook(PAIRS, "aa"), (nothing, nothing, nothing, None, None)))

    def test_reading_on_from_stand_0(self):
        # stand 0 is in the midst of a piece, here: what is put ahead has come already
        row = ((2, (around(("row", A, B), "bbb", ""),)), PAIRS)
        self.assertEqual(prospects(row, "ab"), row_prospects(row, "ab"))
        both = prospects(row, "ab")[1]
        self.assertEqual([both[0], both[1]], [row_prospects((PAIRS,), "bbbab"), row_prospects((PAIRS,), "ab")])

    def test_made_up_rows(self):
        counts = {1: 0, 2: 0, 3: 0}
        for row, some in made_up(150, 700):
            try:
                found = rests(row)
            except TooLarge:
                continue
            counts[len(row)] += 1
            with self.subTest(row=row):
                # the first text of each of the prospects; and longer ones, as far as letters ahead lead to them
                firsts = {}
                for text in some:
                    self.assertEqual(prospects(row, text), row_prospects(row, text))
                    firsts.setdefault(row_prospects(row, text), text)
                self.assertEqual([text for text in found if text in some], list(firsts.values()))
                self.assertEqual(found, sorted(found, key=lambda text: (len(text), text)))
                self.assertEqual(found, rests(row))
                self.assertTrue(Rests([row], found).are_rests())
                longest = LONG[row[0][0]]
                for text in found:
                    if len(text) == longest + 1:
                        same = [one for one in texts(row[0][0], longest + 1) if row_prospects(row, one) ==
                                row_prospects(row, text)]
                        self.assertEqual(same[0], text)
        self.assertGreater(min(counts.values()), 20)

    def test_rests_in_order(self):
        self.assertEqual([rests((row,)) for row in (MARK, SWAP, NOTHING, DOC_RULES)],
                         [["", "b"], ["", "a", "b"], [""], ["", "b", "ab", "aab"]])
        self.assertEqual(rests((PAIRS,)), ["", "a", "aa"])

    def test_forty_prospects_and_more(self):
        for row in RESTS_40:
            found = rests(row)
            self.assertEqual(len(found), 40)
            self.assertIsNone(check_row(row))
            self.assertEqual(prospects(row, "abba"), row_prospects(row, "abba"))
            self.assertTrue(Rests([row], found).are_rests())
        for row in RESTS_41:
            for function in (check_row, rests, lambda row: prospects(row, "a"), lambda row: prospects(row, 5)):
                self.refuses(TooLarge, function, row)

    def test_only_what_comes_about_is_counted(self):
        # the second rules alone have more than 40 prospects, but of what the first ones leave there are few
        wide = RESTS_41[0][0]
        empty = (3, (word(("one", "abc"), ""),))
        self.refuses(TooLarge, check_row, (wide,))
        self.assertEqual(rests((empty, wide)), ["", "a"])
        self.refuses(TooLarge, check_row, (wide, empty))

    def test_long_texts(self):
        self.assertEqual(prospects((LAG, SWAP), "a" * 20000 + "b"), row_prospects((LAG, SWAP), "aab"))

    def test_refusals(self):
        for row in BAD_ROWS:
            self.refuses(BadRow, check_row, row)
            self.refuses(BadRow, rests, row)
            self.refuses(BadRow, prospects, row, 5)
        for row in LARGE_ROWS:
            self.refuses(TooLarge, check_row, row)
            self.refuses(TooLarge, rests, row)
            self.refuses(TooLarge, prospects, row, 5)
        self.refuses(TooLarge, check_row, (MORE_RULES, RESTS_41[1][0]))
        self.refuses_strange(BadText, lambda value: prospects((SWAP, MARK), value))
        self.refuses(BadText, prospects, (SWAP,), "abc")

    def test_answers_are_new(self):
        rests((SWAP,)).clear()
        self.assertEqual(rests((SWAP,)), ["", "a", "b"])


if __name__ == "__main__":
    unittest.main()
