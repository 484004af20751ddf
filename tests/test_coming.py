"""[20] Texts that come about."""

import unittest

from patternways.coming import Barren, Source, before, comes, source
from patternways.errors import BadRow, BadTable, BadText, TooLarge, Unequal
from patternways.rows import rests as rests_of
from patternways.tables import are_alike, is_word, least
from tests.brute import chances, few_row, good_rules, good_table, is_least, texts
from tests.brute_rows import Rests, row_change, row_standing
from tests.case import ALL, EVEN, NOTHING, Case
from tests.row_case import (A, AB, ABC, B, BAD_ROWS, DROP, LAG, LARGE_ROWS, MARK, PAIRS, RESTS_40, RESTS_41,
                            SWAP, around, word)
from tests.row_case import NOTHING as NO_WORDS

C = ("one", "c")
ALL_3 = (((0, 0, 0),), (True,))


def some(pattern, least_turns, most=None):
    """A pattern again."""
    return ("again", pattern, least_turns, most, "many")


# rows of one, two and three rules for which the texts that come about have a table of just 40 stands, and of 41
COMES_40 = [
    ((3, (around(("row", C, ABC, ABC, B), "aac", "bbc"),)),),
    ((3, (around(("row", AB, C, ABC, C), "c", "acc"),)), (3, (word(B, "ba"),))),
    ((2, (around(some(B, 1), "aba", "abb"),)), (2, (around(some(A, 0, 3), "bb", ""),)),
     (2, (word(("row", B, A, A, some(A, 0, 3)), ""),)))]
COMES_41 = [
    ((2, (around(("row", some(AB, 1, 3), A, some(A, 1, 2)), "bb", "aa"),)),),
    ((3, (around(("row", some(A, 1, 3), B), "cc", ""),)), (3, (around(("row", some(C, 0), ABC), "acb", "b"),))),
    ((3, (around(("row", some(ABC, 1), B), "b", "cba"),)), (3, (word(("row", ABC, A, ABC), "ba"),)),
     (3, (around(("row", B, ABC), "b", "caa"),)))]
# the same of the texts whose change is a word of a table
BEFORE_40 = [
    (((3, (word(("row", C, some(("one", "ac"), 0, 3), ABC, A), ""),)),),
     (((2, 2, 1), (0, 1, 2), (2, 1, 2)), (True, False, False))),
    (((2, (word(("row", AB, A, A), ""),)), (2, (word(("row", some(A, 1, 2), some(A, 1), B), ""),))),
     (((1, 2), (0, 1), (1, 0)), (False, True, False))),
    (((2, (word(("row", some(A, 0, 2), A, some(AB, 1, 3), A), "bba"),)), (2, (around(("row", B, B, A), "", "b"),)),
      (2, (word(A, "ab"),))), (((0, 2), (0, 0), (1, 1)), (True, False, False)))]
BEFORE_41 = [
    (((2, (word(("row", B, some(B, 1), AB, B), "aba"),)),),
     (((7, 1), (6, 2), (7, 4), (2, 1), (1, 0), (4, 3), (4, 5), (5, 7)),
      (True, False, True, True, True, False, False, True))),
    (((3, (around(("row", some(ABC, 2, 3), A, ABC, AB), "", "cc"),)), (3, (around(("row", C, A), "c", "aa"),))),
     (((3, 1, 2), (0, 0, 0), (2, 3, 1), (3, 0, 2)), (False, False, True, False))),
    (((2, (around(("row", A, AB, B), "ba", "ab"), word(("row", A, some(B, 0)), "a"))),
      (2, (word(("row", A, B, some(A, 1), B), "b"),)), (2, (around(AB, "aaa", ""),))),
     (((2, 1), (2, 2), (0, 2)), (False, True, True)))]
# what comes of so many texts makes sure that a short text that comes about is met
ROUND = {1: 10, 2: 7, 3: 5}


def places_plainly(row, text, rests):
    """The places of a Barren with such rests, by the words of the document; None if the text comes about."""
    ways = Rests([row], rests).ways()
    found = {(index, (None,) * len(row), 0): "" for index in range(len(rests))}
    queue = list(found)
    for triple in queue:
        for letter, index in ways[triple[0]]:
            longer = found[triple] + letter
            standing, come = row_standing(row, longer + rests[index], len(longer))
            later = (index, standing, len(come))
            if text.startswith(come) and later not in found:
                found[later] = longer
                queue.append(later)
    ended = any(rests[index] == "" and place == len(text) for index, _, place in found)
    return None if ended else list(found)


class Comings(Case):
    def test_plain(self):
        self.assertEqual(comes((SWAP,)), ALL)
        self.assertEqual(comes((NO_WORDS,)), ALL)
        self.assertEqual(comes((DROP,)), (((1, 0), (1, 1)), (True, False)))
        self.assertEqual(comes((DROP, SWAP)), (((0, 1), (1, 1)), (True, False)))
        self.assertEqual(comes((DROP, SWAP, SWAP)), comes((DROP,)))
        self.assertEqual(comes(((2, (word(AB, ""),)),)), (((1, 1), (1, 1)), (True, False)))
        self.assertEqual(comes(((1, (word(A, "aa"),)),)), (((1,), (0,)), (True, False)))

    def test_before_plain(self):
        self.assertEqual(before((SWAP,), EVEN), (((0, 1), (1, 0)), (True, False)))
        self.assertEqual(before((SWAP, SWAP), EVEN), EVEN)
        for row in ((SWAP,), (LAG, MARK), (DROP, PAIRS, LAG)):
            self.assertEqual(before(row, ALL), ALL)
            self.assertEqual(before(row, NOTHING), NOTHING)
        # a table that is not the least one
        self.assertEqual(before((DROP,), (((1, 2), (2, 0), (0, 1)), (True, True, True))), ALL)

    def test_made_up_rows(self):
        for chance in chances(70):
            size, many = chance.choice([1, 2, 2, 3]), chance.choice([1, 2, 3])
            row = few_row(chance, size, many) if chance.random() < 0.8 else (good_rules(chance, size),) * many
            table = good_table(chance, size, 4)
            with self.subTest(row=row, table=table):
                try:
                    rests_of(row)
                except TooLarge:
                    self.refuses(TooLarge, comes, row)
                    self.refuses(TooLarge, before, row, table)
                    self.refuses(TooLarge, source, row, "")
                    continue
                changes = {text: row_change(row, text) for text in texts(size, ROUND[size])}
                self.compare_before(row, table, changes)
                self.compare_comes(row, size, changes)

    def compare_before(self, row, table, changes):
        try:
            found = before(row, table)
        except TooLarge:
            return
        self.assertTrue(is_least(*found))
        for text, change in changes.items():
            self.assertIs(is_word(found, text), is_word(table, change))

    def compare_comes(self, row, size, changes):
        came = set(changes.values())
        try:
            found = comes(row)
        except TooLarge:
            found = None
        if found is not None:
            self.assertTrue(is_least(*found))
            self.assertTrue(all(is_word(found, text) for text in came))
        for text in texts(size, {1: 6, 2: 4, 3: 2}[size]):
            evidence = source(row, text)
            self.assertEqual(evidence, source(row, text))
            self.assertIs(evidence.shows(row, text), True)
            if found is not None:
                self.assertIs(is_word(found, text), isinstance(evidence, Source))
            if isinstance(evidence, Source):
                self.assertEqual(row_change(row, evidence.text), text)
            else:
                self.assertNotIn(text, came)

    def test_limits(self):
        for row in COMES_40:
            self.assertEqual(len(comes(row)[0]), 40)
            self.assertTrue(is_least(*comes(row)))
        for row in COMES_41:
            self.refuses(TooLarge, comes, row)
            self.assertIsInstance(source(row, ""), (Source, Barren))
        for row, table in BEFORE_40:
            self.assertEqual(len(before(row, table)[0]), 40)
        for row, table in BEFORE_41:
            self.refuses(TooLarge, before, row, table)

    def test_large_tables_are_refused_soon(self):
        tail = ("row", some(AB, 3, 3), some(AB, 3, 3))
        far = (3, (around(("row", some(ABC, 0), C, tail), "", ""), word(ABC, "")))
        row = (far, (3, (word(C, "a"),)))
        self.refuses(TooLarge, comes, row)
        for chance in chances(3, 4):
            self.refuses(TooLarge, before, row, good_table(chance, 3, 40))
        self.assertEqual(before(row, ALL_3), ALL_3)

    def test_tables_of_just_40_stands_are_taken(self):
        ring = (tuple((((number + 1) % 40), number) for number in range(40)),
                tuple(number == 39 for number in range(40)))
        self.assertEqual(before((NO_WORDS,), ring), ring)
        self.assertTrue(are_alike(before((DROP,), ring), NOTHING))
        self.assertEqual(before((SWAP, SWAP), ring), least(ring))

    def test_prospects(self):
        for row in RESTS_40:
            self.assertIs(source(row, "ab").shows(row, "ab"), True)
        for row in RESTS_41:
            for function, more in ((comes, ()), (before, (ALL,)), (source, ("ab",)), (Source("").shows, ("",)),
                                   (Barren([], []).shows, ("",))):
                self.refuses(TooLarge, function, row, *more)

    def test_refusals(self):
        table = (((0,),), (True,))
        for row in BAD_ROWS:
            with self.subTest(row=repr(row)):
                self.refuses(BadRow, comes, row)
                self.refuses(BadRow, before, row, None)
                for function in (source, Source("").shows, Barren([""], []).shows):
                    self.refuses(BadRow, function, row, None)
        for row in LARGE_ROWS:
            self.refuses(TooLarge, comes, row)
            self.refuses(TooLarge, before, row, None)
            self.refuses(TooLarge, source, row, None)
        self.refuses_strange(BadTable, lambda value: before((SWAP,), value))
        for bad in ([], (((0, 0),), (1,)), (((0, True),), (True,)), (((0, 1),), (True,)), [((0, 0),), (True,)],
                    (((0, 0), (0, 0)), (True, True))):
            self.refuses(BadTable, before, (SWAP,), bad)
        self.refuses(Unequal, before, (SWAP,), table)
        self.refuses(Unequal, before, COMES_41[1], table)
        for function in (lambda text: source((DROP,), text), lambda text: Source("").shows((DROP,), text),
                         lambda text: Barren([""], []).shows((DROP,), text)):
            self.refuses_strange(BadText, function)
            self.refuses(BadText, function, "abc")
            self.refuses(BadText, function, ["a"])


class Evidence(Case):
    def test_sources(self):
        found = source((SWAP,), "ab")
        self.assertEqual(found, Source("ba"))
        self.shows_only_as_made(found, ((SWAP,), "ab"), {"text": ["ab", "", "bab", "bc", None, ["b", "a"]]})
        self.assertEqual(source((DROP,), ""), Source(""))
        for text in ("", "a", "aaaa"):
            self.assertIs(Source(text).shows((DROP,), ""), True)
        self.assertIs(Source("b").shows((DROP,), ""), False)
        self.assertIs(Source("aabab").shows((DROP,), "bb"), True)

    def test_no_source_of_the_empty_text(self):
        # the change of the empty text is empty
        for row in ((SWAP,), (LAG, LAG), (MARK, DROP, PAIRS)):
            self.assertEqual(source(row, ""), Source(""))

    def test_barren(self):
        for row, text in (((DROP,), "ba"), ((LAG,), "ab"), ((MARK, SWAP), "aa"), ((PAIRS, DROP), "aab"),
                          ((DROP, PAIRS, LAG), "bab")):
            found = source(row, text)
            self.assertIsInstance(found, Barren)
            self.assertEqual(found.rests, rests_of(row))
            self.assertCountEqual(found.places, places_plainly(row, text, found.rests))
            self.shows_only_as_made(found, (row, text), {
                "rests": [[], found.rests[1:], found.rests + ["abab"], ["a" * 7 for _ in found.rests], None,
                          [None] + found.rests[1:]],
                "places": [[], found.places[1:], found.places[:-1], [*found.places, (0, (None,) * len(row), 9)],
                           [list(triple) for triple in found.places], [triple[:2] for triple in found.places],
                           [(triple[0], triple[1], bool(triple[2])) for triple in found.places],
                           [(triple[0] + 90, *triple[1:]) for triple in found.places],
                           [*found.places, (len(found.rests), (None,) * len(row), 0)],
                           [*found.places, (-1, (None,) * len(row), 0)],
                           [(triple[0], triple[1], triple[2] + 1) for triple in found.places]]})

    def test_barren_made_otherwise(self):
        for row, text in (((DROP,), "ba"), ((LAG,), "bab"), ((MARK,), "ba")):
            rests = rests_of(row)
            others = list(reversed(rests))
            self.assertIs(Barren(others, places_plainly(row, text, others)[::-1]).shows(row, text), True)
            self.assertIs(Barren(tuple(rests), tuple(places_plainly(row, text, rests))).shows(row, text), True)
            if len(rests) > 1:
                self.assertIs(Barren(others, places_plainly(row, text, rests)).shows(row, text), False)
        # what shows that ba does not come about shows that bab does not, either
        self.assertIs(source((DROP,), "ba").shows((DROP,), "bab"), True)
        self.assertIs(source((DROP,), "ba").shows((DROP,), "bb"), False)
        self.assertIs(source((DROP,), "ba").shows((SWAP,), "ba"), False)

    def test_other_rests(self):
        row, text = (LAG,), "ab"
        rests = rests_of(row)
        same = Rests([row], rests)
        others = []
        for rest in rests:
            longer = [other for other in texts(2, 5) if same.seen(other) == same.seen(rest) and other != rest]
            others.append(longer[0] if rest else rest)
        self.assertNotEqual(others, rests)
        self.assertIs(Barren(others, places_plainly(row, text, others)).shows(row, text), True)

    def test_made_up(self):
        seen = 0
        for chance in chances(40, 500):
            size = chance.choice([1, 2, 3])
            row = few_row(chance, size, chance.choice([1, 2, 3]))
            text = "".join(chance.choice("abc"[:size]) for _ in range(chance.randint(1, 5)))
            try:
                found = source(row, text)
            except TooLarge:
                continue
            with self.subTest(row=row, text=text):
                self.assertIs(found.shows(row, text), True)
                places = places_plainly(row, text, rests_of(row))
                if isinstance(found, Barren):
                    seen += 1
                    self.assertCountEqual(found.places, places)
                    self.assertIs(Barren(found.rests, places[::-1]).shows(row, text), True)
                else:
                    self.assertIsNone(places)
                    self.assertIs(Barren(rests_of(row), []).shows(row, text), False)
        self.assertGreater(seen, 5)

    def test_copies(self):
        rests, places = [""], [(0, (None,), 0)]
        made = Barren(rests, places)
        rests.append("a")
        places.append(1)
        self.assertEqual(made, Barren(("",), ((0, (None,), 0),)))
        self.assertIsInstance(made.places, list)
        self.assertTrue(made != Barren([""], []))
        self.assertFalse(made == Source(""))
        self.assertTrue(Source("a") != Source("b"))
        found = source((DROP,), "ba")
        found.places.clear()
        found.rests.clear()
        self.assertIs(source((DROP,), "ba").shows((DROP,), "ba"), True)

    def test_long_texts(self):
        self.assertEqual(source((SWAP,), "ab" * 300), Source("ba" * 300))
        self.assertIs(source((DROP,), "b" * 500 + "a").shows((DROP,), "b" * 500 + "a"), True)


if __name__ == "__main__":
    unittest.main()
