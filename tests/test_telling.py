"""[18] What is sure, and [19] tellers."""

import unittest

from patternways.errors import BadRow, BadText, TooLarge
from patternways.rows import rests
from patternways.telling import Lagging, Teller, sure, telling
from tests.brute import chances, few_row, texts
from tests.brute_rows import (Rests, begin_of_all, is_lagging, row_change, sure_so_far, teller_plainly, told_plainly,
                              twos_plainly)
from tests.case import DOC_RULES, FAR_RULES, TWOS, Case
from tests.row_case import (A, AB, B, BAD_ROWS, DROP, LAG, LARGE_ROWS, MARK, NOTHING, PAIRS, RESTS_40, RESTS_41, SWAP,
                            TWOS_600, TWOS_601, around, word)

LONG = {1: 9, 2: 6, 3: 4}
# c, six letters that are a or b, and c: a teller remembers them all
REMEMBERS = (3, (word(("row", ("one", "c"), ("again", AB, 3, 3, "many"), ("again", AB, 3, 3, "many"), ("one", "c")), ""),))
# two words begin alike, and what is put for them does, too
ALIKE = (2, (word(("row", A, A), "bba"), word(("row", A, B), "bbb")))


def parts_of(found):
    """The attributes of a Teller."""
    return [found.moves, found.ends, found.rests, found.ahead, found.forks, found.partings]


class Sure(Case):
    def test_plain(self):
        self.assertEqual([sure((LAG,), text) for text in ("", "a", "aa", "b", "baa", "aab", "aabab")],
                         ["", "", "", "b", "b", "b", "bb"])
        self.assertEqual([sure((SWAP,), text) for text in ("", "ab", "bba")], ["", "ba", "aab"])
        self.assertEqual([sure((DOC_RULES,), text) for text in ("", "a", "aa", "aaa", "aaab", "b", "ba")],
                         ["", "", "", "a", "a", "abb", "abb"])

    def test_what_is_put_begins_alike(self):
        # behind an a, it is sure that two b come if a letter comes; but the text may end there
        self.assertEqual([sure((ALIKE,), text) for text in ("", "a", "aa", "b", "ba")], ["", "", "bba", "b", "b"])
        # here, what comes begins alike in each case
        row = ((2, (word(("row", A, A), "aab"), word(("row", A, B), "ab"), word(A, "aaa"))),)
        self.assertEqual([sure(row, text) for text in ("a", "aa", "ba", "ab")], ["a", "aab", "ba", "ab"])

    def test_a_word_that_is_told_ahead_of_its_end(self):
        row = ((1, (word(("row", A, A), "a"), word(A, "aaa"))), (1, (around(A, "", "a"),)))
        self.assertEqual([sure(row, "a" * many) for many in range(5)], ["", "aa", "aa", "aaaa", "aaaa"])

    def test_where_no_text_can_go_on_otherwise(self):
        # nothing more comes whatever is behind
        row = (DROP, (2, (word(B, ""),)))
        self.assertEqual([sure(row, text) for text in ("", "a", "ab", "bbb")], ["", "", "", ""])
        gone = ((1, (word(("again", A, 1, None, "many"), "aaa"),)),)
        self.assertEqual([sure(gone, text) for text in ("", "a", "aaaa")], ["", "aaa", "aaa"])

    def test_made_up_rows(self):
        counts = {}
        for chance in chances(120, 70):
            size = chance.choice([1, 2, 2, 2, 3])
            row = few_row(chance, size, chance.choice([1, 1, 2, 3]))
            try:
                longest = len(rests(row)[-1])
            except TooLarge:
                continue
            if longest > {1: 7, 2: 4, 3: 2}[size]:
                continue
            counts[len(row)] = counts.get(len(row), 0) + 1
            # each standing can go on with each rest; some letters more, and all ends are seen
            behind = texts(size, longest + {1: 6, 2: 3, 3: 2}[size])
            for text in texts(size, {1: 8, 2: 4, 3: 3}[size])[::2]:
                with self.subTest(row=row, text=text):
                    self.assertEqual(sure(row, text), sure_so_far(row, text, behind))
        self.assertGreater(min(counts.values()), 10)

    def test_long_texts(self):
        self.assertEqual(sure((LAG, SWAP), "aab" * 1000 + "a" * 2000), "a" * 1000)
        self.assertEqual(sure((LAG,), "a" * 4000), "")
        self.assertEqual(sure((REMEMBERS,), "cab" * 1000), "cab" * 999 + "")

    def test_refusals(self):
        for row in BAD_ROWS:
            self.refuses(BadRow, sure, row, 5)
        for row in LARGE_ROWS + RESTS_41:
            self.refuses(TooLarge, sure, row, 5)
        self.refuses_strange(BadText, lambda value: sure((SWAP, MARK), value))
        self.refuses(BadText, sure, (SWAP,), "abc")
        # no pairs are counted here
        self.assertEqual(sure(TWOS_601, ""), "")
        self.assertEqual(sure(RESTS_40[0], "ab"), sure_so_far(RESTS_40[0], "ab", texts(2, 7)))


class Tellers(Case):
    def look_at_teller(self, row, found, most=None):
        """A Teller is as described, plainly."""
        size, stands = row[0][0], range(len(found.ends))
        moves, ends, some, ahead, forks, partings = parts_of(found)
        self.assertEqual(len(found), len(ends))
        self.assertEqual(sorted(moves), [(stand, letter) for stand in stands for letter in "abc"[:size]])
        order = [0]
        for stand in order:
            order.extend(later for later in dict.fromkeys(moves[(stand, letter)][0] for letter in "abc"[:size])
                         if later not in order)
        self.assertEqual(order, list(stands))
        for text in texts(size, most or LONG[size]):
            self.assertEqual(found.tell(text), row_change(row, text))
        for text in texts(size, 3):
            self.assertEqual(told_plainly(moves, [""] * len(ends), 0, text)[0], sure(row, text))
        self.assertTrue(Rests([row], some).are_rests())
        self.assertEqual(teller_plainly(row, moves, ends, some), ahead)
        self.assertEqual(len(forks), len(ends))
        for stand, fork in enumerate(forks):
            one, other = [told_plainly(moves, ends, stand, text)[0] for text in fork]
            self.assertTrue(one == "" or other == "" or one[0] != other[0])
        self.assertEqual(sorted(partings), [(one, other) for one in stands for other in stands if one < other])
        for (one, other), text in partings.items():
            self.assertNotEqual(told_plainly(moves, ends, one, text)[0], told_plainly(moves, ends, other, text)[0])

    def test_one_stand(self):
        found = telling((SWAP,))
        self.assertEqual(parts_of(found), [{(0, "a"): (0, "b"), (0, "b"): (0, "a")}, [""], ["", "a", "b"],
                                           {(index, (None,), 0): ("", "") for index in range(3)}, [("", "")], {}])
        self.assertEqual([len(found), found.tell("abba"), found.tell("")], [1, "baab", ""])
        for row in [(NOTHING,), (SWAP, SWAP), (DROP,), (DROP, DROP, SWAP)]:
            found = telling(row)
            self.assertEqual(len(found), 1)
            self.look_at_teller(row, found)

    def test_several_stands(self):
        for row, many in [((PAIRS,), 2), ((DOC_RULES,), 3), ((TWOS,), 2), ((ALIKE,), 2), ((REMEMBERS,), 128)]:
            found = telling(row)
            self.assertEqual(len(found), many)
            self.look_at_teller(row, found, 5)
            self.assertIs(found.shows(row), True)

    def test_numbered_by_first_texts(self):
        found = telling((DOC_RULES,))
        self.assertEqual(found.moves, {(0, "a"): (1, ""), (0, "b"): (0, "abb"), (1, "a"): (2, ""), (1, "b"): (0, "aabb"),
                                       (2, "a"): (2, "a"), (2, "b"): (0, "")})
        self.assertEqual(found.ends, ["", "a", "aa"])

    def test_what_is_told_at_the_end(self):
        found = telling((ALIKE,))
        self.assertEqual([found.tell(text) for text in ("", "a", "aa", "aab", "ab")], ["", "a", "bba", "bbab", "bbb"])
        self.assertEqual(found.ends, ["", "a"])

    def test_rows_that_fall_behind(self):
        for row in [(LAG,), (FAR_RULES,), (MARK,), (LAG, SWAP), (SWAP, LAG, DROP), (DROP, MARK)]:
            found = telling(row)
            with self.subTest(row=row):
                if isinstance(found, Lagging):
                    self.assertTrue(is_lagging(row, found.begin, found.ring, found.one, found.other))
                else:
                    self.look_at_teller(row, found)
                self.assertIs(found.shows(row), True)
        self.assertIsInstance(telling((LAG,)), Lagging)
        self.assertIsInstance(telling((DROP, MARK)), Teller)

    def test_the_same_letters_only_later(self):
        # of a a and so on, it is not sure whether a b comes, but what comes is the same letter
        row = ((1, (word(("row", A, A), "aa"), word(A, "aa"))),)
        found = telling(row)
        self.look_at_teller(row, found)
        # an even number of a comes to half as many, an odd one to one more
        row = ((1, (word(("again", ("row", A, A), 1, None, "many"), "a"), word(A, "aaa"))),)
        self.look_at_teller(row, telling(row))
        # but if more may come for the whole piece, it falls behind
        row = ((1, (around(("again", ("row", A, A), 1, None, "many"), "a", "a"),)),)
        found = telling(row)
        self.assertIs(found.shows(row), True)

    def test_made_up_rows(self):
        counts = {}
        for chance in chances(260, 10):
            size = chance.choice([1, 2, 2, 2, 3])
            row = few_row(chance, size, chance.choice([1, 1, 2, 3]))
            try:
                found = telling(row)
            except TooLarge:
                continue
            key = "lagging" if isinstance(found, Lagging) else min(len(found), 4)
            counts[key] = counts.get(key, 0) + 1
            with self.subTest(row=row):
                self.assertEqual(found, telling(row))
                self.assertIs(found.shows(row), True)
                if isinstance(found, Teller):
                    self.look_at_teller(row, found)
                else:
                    self.assertTrue(is_lagging(row, found.begin, found.ring, found.one, found.other))
                    # what is sure falls behind what has come
                    far = [len(found.begin + found.ring * many) for many in (1, 6)]
                    self.assertGreater(far[1], far[0])
        self.assertGreater(min(counts.values()), 10)
        self.assertEqual(len(counts), 5)

    def test_pairs_of_rests(self):
        found = telling(TWOS_600)
        self.assertEqual(twos_plainly(TWOS_600, rests(TWOS_600)), 600)
        self.assertIs(found.shows(TWOS_600), True)
        self.assertEqual(twos_plainly(TWOS_601, rests(TWOS_601)), 601)
        for function in (telling, found.shows, Lagging("", "a", "", "").shows):
            self.refuses(TooLarge, function, TWOS_601)
            # of 40 rests alone there are 780 pairs
            for row in RESTS_40:
                self.refuses(TooLarge, function, row)

    def test_refusals(self):
        parts = parts_of(telling((SWAP,)))
        for function in (telling, Teller(*parts).shows, Lagging("", "a", "", "").shows):
            for row in BAD_ROWS:
                self.refuses(BadRow, function, row)
            for row in LARGE_ROWS + RESTS_41:
                self.refuses(TooLarge, function, row)


class Evidence(Case):
    def test_teller_shows(self):
        row = (DOC_RULES,)
        found = telling(row)
        moves, ends, some, ahead, forks, partings = parts_of(found)
        triple = [triple for triple, pair in ahead.items() if pair == ("aa", "")][0]
        first = (0, (None,), 0)
        true = {(True if key[0] == 1 else key[0], key[1]): moves[key] for key in moves}
        self.shows_only_as_made(found, (row,), {
            "moves": [{}, None, true] + [{other: moves[other] for other in moves if other != one} for one in moves]
                     + [{**moves, one: to} for one in moves for to in [(0, "ba"), (2, moves[one][1] + "a"), None, list(moves[one])]]
                     + [{**moves, (3, "a"): (0, "")}, {**moves, (0, "c"): (0, "")}, {**moves, (1, "a"): (True, "")},
                        {**moves, (0, "a"): (True, "")}],
            "ends": [[], ends[:2], ends + [""], ["", "a", "a"], ["a", "a", "aa"], ["", "a", None], None],
            "rests": [[], some[1:], some[:-1], some + ["a"], some[:-1] + ["c"], some[:-1] + [None], some[::-1], None],
            "ahead": [{}, None, list(ahead.items())]
                     + [{other: ahead[other] for other in ahead if other != one} for one in ahead]
                     + [{**ahead, triple: pair} for pair in [("", ""), ("a", ""), ("aaa", "a"), None, ["aa", ""]]]
                     + [{**ahead, other: ("", "")} for other in [
                         (4, (None,), 0), (-1, (None,), 0), (0, (1,), 0), (0, (None,), 3), (0, (None,), (None,)), None,
                         (0, None, 0), (0, (None,))]]
                     + [{**{other: ahead[other] for other in ahead if other != first}, key: ("", "")}
                        for key in [(False, (None,), 0), (0, (None,), False), (0, (None, None), 0)]],
            "forks": [[], forks[:2], forks + [("", "")], None, dict(enumerate(forks)), [("", ""), ("", ""), ("b", "b")],
                      [("", ""), ("ab", "ab"), ("", "")], [("a", "a")] + forks[1:], [("aa", "aaa")] + forks[1:],
                      [("a",)] + forks[1:], [["", ""]] + forks[1:], [("", None)] + forks[1:], [("", "c")] + forks[1:],
                      [None] + forks[1:], [("", "", "")] + forks[1:]],
            "partings": [{}, None, list(partings.items())]
                        + [{other: partings[other] for other in partings if other != one} for one in partings]
                        + [{**partings, (0, 1): text} for text in ["c", "abc", None, 0, ["a"]]]
                        + [{**partings, pair: "a"} for pair in [(0, 3), (1, 0), (0, 0), (-1, 0), None, (0,), (0, 1, 2)]]
                        + [{(0, 1): "", (0, 2): "", (True, 2): ""}, {(False, 1): "", (0, 2): "", (1, 2): ""},
                           {(0, 1): "", (2, 0): "", (1, 2): ""}]})
        self.assertIs(found.shows((SWAP,)), False)
        self.assertIs(found.shows((LAG,)), False)
        self.assertIs(found.shows((DOC_RULES, NOTHING)), False)

    def test_forks_and_partings_plainly(self):
        row = (DOC_RULES,)
        moves, ends, some, ahead, forks, partings = parts_of(telling(row))
        for stand in range(3):
            for one in texts(2, 3):
                for other in texts(2, 3):
                    first, second = [told_plainly(moves, ends, stand, text)[0] for text in (one, other)]
                    expected = first == "" or second == "" or first[0] != second[0]
                    held = forks[:stand] + [(one, other)] + forks[stand + 1:]
                    self.assertIs(Teller(moves, ends, some, ahead, held, partings).shows(row), expected)
        # c, two letters that are a or b, and c
        row = ((3, (word(("row", ("one", "c"), AB, AB, ("one", "c")), ""),)),)
        moves, ends, some, ahead, forks, partings = parts_of(telling(row))
        seen = {True: 0, False: 0}
        for one, other in partings:
            for text in texts(3, 2):
                expected = told_plainly(moves, ends, one, text)[0] != told_plainly(moves, ends, other, text)[0]
                seen[expected] += 1
                held = {**partings, (one, other): text}
                self.assertIs(Teller(moves, ends, some, ahead, forks, held).shows(row), expected)
        self.assertGreater(min(seen.values()), 5)

    def test_other_rests_and_orders(self):
        for row in [(DOC_RULES,), (PAIRS, SWAP), (ALIKE,)]:
            found = telling(row)
            known = Rests([row], found.rests)
            longer = [""] + [max(text for text in texts(2, 6) if known.known[known.seen(text)] == index)
                             for index in range(1, len(found.rests))]
            longer.reverse()
            self.assertNotEqual(longer, found.rests)
            last = len(longer) - 1
            ahead = {(last - triple[0], *triple[1:]): found.ahead[triple] for triple in reversed(found.ahead)}
            moves = {key: found.moves[key] for key in reversed(found.moves)}
            partings = {key: found.partings[key] for key in reversed(found.partings)}
            forks = [fork[::-1] for fork in found.forks]
            again = Teller(moves, tuple(found.ends), tuple(longer), ahead, tuple(forks), partings)
            self.assertIs(again.shows(row), True)
            self.assertEqual([again.tell(text) for text in texts(2, 4)], [row_change(row, text) for text in texts(2, 4)])
            if ahead != found.ahead:
                again.ahead = found.ahead
                self.assertIs(again.shows(row), False)

    def test_tellers_that_are_not_the_one(self):
        # the same function: with a stand twice, told later than it is sure, or numbered in another way
        row = (SWAP,)
        some = rests(row)
        twice = {(stand, letter): (1 - stand, text) for stand in (0, 1) for letter, text in [("a", "b"), ("b", "a")]}
        late = {(0, "a"): (1, ""), (0, "b"): (2, ""), (1, "a"): (1, "b"), (1, "b"): (2, "b"), (2, "a"): (1, "a"),
                (2, "b"): (2, "a")}
        for moves, ends in [(twice, ["", ""]), (late, ["", "b", "a"])]:
            stands = range(len(ends))
            found = Teller(moves, ends, some, teller_plainly(row, moves, ends, some), [("", "")] * len(ends),
                           {(one, other): "a" for one in stands for other in stands if one < other})
            self.assertEqual([found.tell(text) for text in texts(2, 5)], [row_change(row, text) for text in texts(2, 5)])
            self.assertIs(found.shows(row), False)
        moves, ends, some, ahead, forks, partings = parts_of(telling((DOC_RULES,)))
        other = {0: 0, 1: 2, 2: 1}
        turned = Teller({(other[stand], letter): (other[to], text) for (stand, letter), (to, text) in moves.items()},
                        [ends[0], ends[2], ends[1]], some,
                        {(*triple[:2], other[triple[2]]): pair for triple, pair in ahead.items()},
                        [forks[0], forks[2], forks[1]], partings)
        self.assertEqual([turned.tell(text) for text in texts(2, 5)], [row_change((DOC_RULES,), text)
                                                                        for text in texts(2, 5)])
        self.assertIs(turned.shows((DOC_RULES,)), False)

    def test_lagging_shows(self):
        row = (LAG,)
        found = telling(row)
        self.assertTrue(is_lagging(row, found.begin, found.ring, found.one, found.other))
        found = Lagging("a", "a", "", "ab")
        self.shows_only_as_made(found, (row,), {
            "begin": ["b", "ab", "c", None, 0, ["a"]], "ring": ["", "b", "ab", "c", None, ("a",)],
            "one": ["b", "ab", "aab", "c", None], "other": ["", "a", "b", "ba", "c", None]})
        for begin in texts(2, 3):
            for ring in texts(2, 2):
                for one in texts(2, 2):
                    for other in texts(2, 3):
                        self.assertIs(Lagging(begin, ring, one, other).shows(row), is_lagging(row, begin, ring, one, other))
        self.assertIs(Lagging("a", "a", "", "ab").shows((SWAP,)), False)

    def test_lagging_plainly_for_rows(self):
        seen = {True: 0, False: 0}
        for row in [(LAG, SWAP), (FAR_RULES,), (SWAP, LAG), (DOC_RULES,), (PAIRS, DROP), (MARK, LAG)]:
            found = telling(row)
            few = texts(2, 2)
            for begin in few + [getattr(found, "begin", "b")]:
                for ring in few[:4] + [getattr(found, "ring", "b")]:
                    for one in few[:4] + [getattr(found, "one", "ab")]:
                        for other in few + [getattr(found, "other", "ab")]:
                            expected = is_lagging(row, begin, ring, one, other)
                            seen[expected] += 1
                            self.assertIs(Lagging(begin, ring, one, other).shows(row), expected)
        self.assertGreater(min(seen.values()), 20)

    def test_of_its_parts(self):
        moves = {(0, "a"): (1, "x"), (0, "b"): (0, "y"), (1, "a"): (0, ""), (1, "b"): (1, "zz")}
        found = Teller(moves, ("", "!"), [""], {}, (), {})
        self.assertEqual([len(found), found.tell(""), found.tell("a"), found.tell("abab")], [2, "", "x!", "xzzy"])
        self.assertEqual([found.ends, found.forks], [["", "!"], []])
        self.assertEqual(found.tell("b" * 20000), "y" * 20000)

    def test_equality_and_copies(self):
        parts = [{(0, "a"): (0, "")}, [""], [""], {(0, (None,), 0): ("", "")}, [("", "")], {}]
        self.assertTrue(Teller(*parts) == Teller(*parts))
        for at, other in enumerate([{}, ["a"], [], {}, [], {(0, 1): ""}]):
            self.assertTrue(Teller(*parts) != Teller(*parts[:at], other, *parts[at + 1:]))
        self.assertTrue(Teller(*parts) != Lagging("", "a", "", ""))
        self.assertTrue(Lagging("", "a", "b", "") == Lagging("", "a", "b", ""))
        for other in (Lagging("a", "a", "b", ""), Lagging("", "b", "b", ""), Lagging("", "a", "a", ""),
                      Lagging("", "a", "b", "a"), Teller(*parts)):
            self.assertTrue(Lagging("", "a", "b", "") != other)
        found = Teller(*parts)
        for part in parts:
            part.clear()
        self.assertEqual(parts_of(found), [{(0, "a"): (0, "")}, [""], [""], {(0, (None,), 0): ("", "")}, [("", "")], {}])
        first = telling((DOC_RULES,))
        for part in parts_of(first):
            part.clear()
        self.assertEqual([len(part) for part in parts_of(telling((DOC_RULES,)))], [6, 3, 4, 12, 3, 3])


class Words(unittest.TestCase):
    def test_begin_of_all(self):
        self.assertEqual([begin_of_all(["ab", "abb", "aba"]), begin_of_all(["", "a"]), begin_of_all(["b"])], ["ab", "", "b"])


if __name__ == "__main__":
    unittest.main()
