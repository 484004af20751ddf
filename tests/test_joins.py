"""[12] Side by side: kinds that are free ahead of others, and pieces that come back."""

import unittest

from patternways.errors import BadKind, BadPieces, BadRules, TooLarge
from patternways.joins import Bound, Free, come_back, free_pairs, is_free, judge_free
from patternways.readings import pieces, spots
from patternways.rules import table_of_rules
from patternways.spots import spots_and_moves
from tests.brute import chances, few_rules, good_rules, texts
from tests.brute_rows import table_for, walk
from tests.case import DOC_RULES, FAR_RULES, MORE_RULES, NO_RULES, SPOTS_200, SPOTS_201, TWOS, Case

A, B, AB = ("one", "a"), ("one", "b"), ("one", "ab")
ONE_TWO = (2, ((A, ("word", "")), (("row", A, A), ("word", "b"))))
LONG = {1: 8, 2: 4, 3: 3}


def side_by_side(rules, one, other):
    """Whether two texts are read one behind the other as they are read apart."""
    past = len(one)
    behind = [(kind, first + past, last + past) for kind, first, last in pieces(rules, other)]
    return pieces(rules, one + other) == pieces(rules, one) + behind


def is_bound(rules, kind, late, one, other):
    """Whether two texts show that a kind is not free ahead of another one."""
    if not one or not other or pieces(rules, one)[-1][0] != kind or pieces(rules, other)[0][0] != late:
        return False
    return not side_by_side(rules, one, other)


def all_bound(rules, some):
    """The pairs of kinds for which some of these texts show that the first is not free ahead of the second one."""
    table, found = table_for(rules), set()
    known = {text: walk(table, text) for text in some}
    for one in some:
        for other in some:
            behind = [(kind, first + len(one), past + len(one)) for kind, first, past in known[other]]
            if walk(table, one + other) != known[one] + behind:
                found.add((known[one][-1][0], behind[0][0]))
    return found


class Ways:
    """All spots of rules and what letters lead to, for evidence to be looked at plainly."""

    def __init__(self, rules):
        self.rows, self.labels = table_of_rules(rules)
        found, moves = spots_and_moves((self.rows, self.labels))
        self.spots = set(found)
        self.ways = {spot: [(letter, later) for letter in range(rules[0]) for number, later in enumerate(found)
                            if masks[letter] >> number & 1] for spot, masks in zip(found, moves)}
        self.views = {view for stand, view in found if stand is None}
        self.nothing = (None,) * len(self.rows)

    def behind(self, row):
        """The triples behind a triple, each with the kind of the piece that ends the text there, if one does."""
        stand, other, view = row
        for letter, (later, sight) in self.ways.get((stand, view), []):
            kind = view[stand or 0] if sight == self.nothing else "none"
            yield (later, self.rows[other][letter], sight), kind

    def are_rows(self, rows, kind, late):
        """Whether rows are as a Free has them."""
        rows = set(rows)
        if not all((None, 0, view) in rows for view in self.views):
            return False
        for row in rows:
            for later, last in self.behind(row):
                if later not in rows:
                    return False
                if last == kind and any(view[0] == late and view[later[1]] is not None for view in self.views):
                    return False
        return True


class Frees(Case):
    def test_plain(self):
        self.assertEqual(free_pairs(ONE_TWO), [(None, None), (None, 0), (None, 1), (0, None), (1, None), (1, 0), (1, 1)])
        self.assertEqual(free_pairs(TWOS), [(0, None), (0, 0)])
        self.assertEqual(free_pairs(FAR_RULES), [(0, None), (0, 0)])
        self.assertEqual(free_pairs(NO_RULES), [(None, None), (None, 0), (0, None), (0, 0)])
        found = judge_free(ONE_TWO, 0, 0)
        self.assertEqual(found, Bound("a", "a"))
        self.assertIs(is_free(ONE_TWO, 0, 0), False)
        self.assertIs(is_free(ONE_TWO, 1, 0), True)

    def test_kinds_that_no_piece_has(self):
        # the second rule only has words of the first one; each letter is of a rule, so none is kept
        rules = (2, ((AB, ("word", "")), (A, ("word", "a")), (("none",), ("word", ""))))
        self.assertEqual(free_pairs(rules), [(one, other) for one in (None, 0, 1, 2) for other in (None, 0, 1, 2)])
        rules = (2, ((("again", A, 1, None, "many"), ("word", "")), (A, ("word", "a")), (("none",), ("word", ""))))
        self.assertIs(is_free(rules, 0, 0), False)
        for kind, late in [(0, 1), (1, 0), (1, 1), (2, 0), (0, 2), (None, 1), (1, None), (2, 2)]:
            found = judge_free(rules, kind, late)
            self.assertIsInstance(found, Free)
            self.assertIs(found.shows(rules, kind, late), True)

    def test_what_goes_on_from_further_ahead(self):
        # behind a kept b, an a can be taken by a piece that began with an a ahead of it
        rules = (2, ((("row", A, B, A), ("word", "")),))
        found = judge_free(rules, None, None)
        self.assertIs(found.shows(rules, None, None), True)
        self.assertIsInstance(found, Bound)
        self.assertIs(Bound("ab", "a").shows(rules, None, None), True)
        self.assertIs(Bound("a", "ba").shows(rules, None, None), True)
        self.assertIs(Bound("bab", "ab").shows(rules, None, None), True)
        self.assertIs(Bound("b", "a").shows(rules, None, None), False)

    def test_made_up_rules(self):
        seen = {True: 0, False: 0}
        for chance in chances(60):
            size = chance.choice([1, 2, 2, 3])
            rules = few_rules(chance, size) if chance.random() < 0.7 else good_rules(chance, size)
            try:
                pairs = free_pairs(rules)
            except TooLarge:
                continue
            kinds = [None, *range(len(rules[1]))]
            some = texts(size, LONG[size], 1)
            bound = all_bound(rules, some)
            ways = Ways(rules)
            for kind in kinds:
                for late in kinds:
                    with self.subTest(rules=rules, kind=kind, late=late):
                        found = judge_free(rules, kind, late)
                        seen[(kind, late) in pairs] += 1
                        self.assertEqual(found, judge_free(rules, kind, late))
                        self.assertIs(is_free(rules, kind, late), (kind, late) in pairs)
                        self.assertIs(found.shows(rules, kind, late), True)
                        if (kind, late) in pairs:
                            self.assertIsInstance(found, Free)
                            self.assertTrue(ways.are_rows(found.rows, kind, late))
                            self.assertNotIn((kind, late), bound)
                        else:
                            self.assertTrue(is_bound(rules, kind, late, found.one, found.other))
            self.assertEqual(pairs, [(kind, late) for kind in kinds for late in kinds if (kind, late) in pairs])
        self.assertGreater(min(seen.values()), 50)


class Evidence(Case):
    def test_free_shows(self):
        found = judge_free(ONE_TWO, 1, 0)
        rows = list(found.rows)
        start = rows[0]
        fewer = [rows[:number] + rows[number + 1:] for number in range(len(rows))]
        more = [rows + [row] for row in [
            None, (), (None, 0), (None, 9, start[2]), (None, -1, start[2]), (9, 0, start[2]), (None, None, start[2]),
            (None, True, start[2]), (False, 0, start[2]), (None, 0, (1, 1, 1, 1)), (None, 0, None), (None, 0, ()),
            (None, 0, list(start[2])), [None, 0, start[2]], (None, 0, start[2], 0)]]
        self.shows_only_as_made(found, (ONE_TWO, 1, 0), {"rows": [[], *fewer, *more]})
        found.rows = rows[::-1]
        self.assertIs(found.shows(ONE_TWO, 1, 0), True)
        self.assertIs(found.shows(ONE_TWO, 1, 1), True)
        self.assertIs(found.shows(ONE_TWO, 0, 0), False)
        self.assertIs(found.shows(DOC_RULES, 1, 0), False)

    def test_more_rows_than_needed(self):
        seen = {True: 0, False: 0}
        for rules in (ONE_TWO, DOC_RULES, FAR_RULES, (2, ((("row", A, B, A), ("word", "")), (("row", B, B), ("word", ""))))):
            ways = Ways(rules)
            for kind, late in free_pairs(rules):
                rows = judge_free(rules, kind, late).rows
                others = [(stand, other, view) for stand, view in sorted(ways.spots, key=str)
                          for other in range(len(ways.rows)) if (stand, other, view) not in rows]
                for extra in others:
                    expected = ways.are_rows(rows + [extra], kind, late)
                    self.assertIs(Free(rows + [extra]).shows(rules, kind, late), expected)
                    closed = rows + [extra]
                    for row in closed:
                        closed.extend({later for later, _ in ways.behind(row)} - set(closed))
                    expected = ways.are_rows(closed, kind, late)
                    seen[expected] += 1
                    self.assertIs(Free(closed).shows(rules, kind, late), expected)
        self.assertGreater(min(seen.values()), 5)

    def test_rows_without_spots(self):
        # from what is no spot one can not go on
        rows = judge_free(DOC_RULES, 1, 1).rows
        extra = (4, 2, rows[0][2])
        self.assertNotIn((4, rows[0][2]), spots(DOC_RULES))
        self.assertIs(Free([extra] + rows).shows(DOC_RULES, 1, 1), True)

    def test_bound_shows(self):
        found = judge_free(ONE_TWO, 0, 0)
        self.shows_only_as_made(found, (ONE_TWO, 0, 0), {
            "one": ["", "b", "aa", "c", None, 0, ["a"]], "other": ["", "b", "ba", "aa", "c", None, ("a",)]})
        self.assertIs(Bound("baaa", "aba").shows(ONE_TWO, 0, 0), True)
        self.assertIs(Bound("a", "a").shows(ONE_TWO, 0, 1), False)
        self.assertIs(Bound("a", "a").shows(ONE_TWO, 1, 0), False)
        self.assertIs(Bound("a", "aa").shows(ONE_TWO, 0, 1), True)
        self.assertIs(Bound("a", "a").shows(TWOS, None, None), True)
        for one in texts(2, 4):
            for other in texts(2, 4):
                for kind, late in [(0, 0), (None, 0), (0, 1), (None, None)]:
                    self.assertIs(Bound(one, other).shows(ONE_TWO, kind, late),
                                  is_bound(ONE_TWO, kind, late, one, other))

    def test_equality_and_copies(self):
        self.assertTrue(Free([(None, 0, ())]) == Free(((None, 0, ()),)))
        self.assertTrue(Free([]) != Free([(None, 0, ())]))
        self.assertTrue(Free([]) != Bound("", ""))
        self.assertTrue(Bound("a", "b") == Bound("a", "b"))
        self.assertTrue(Bound("a", "b") != Bound("a", "a"))
        self.assertTrue(Bound("a", "b") != Bound("b", "b"))
        self.assertTrue(Bound("a", "b") != Free([]))
        given = [(None, 0, ())]
        found = Free(given)
        given.append(0)
        self.assertEqual(found.rows, [(None, 0, ())])
        self.assertEqual(Free(((None, 0, ()),)).rows, [(None, 0, ())])
        judge_free(TWOS, 0, 0).rows.clear()
        self.assertNotEqual(judge_free(TWOS, 0, 0).rows, [])
        free_pairs(TWOS).clear()
        self.assertEqual(free_pairs(TWOS), [(0, None), (0, 0)])

    def test_refusals(self):
        for function in (judge_free, is_free, Free([]).shows, Bound("a", "a").shows):
            self.refuses_strange(BadRules, lambda value, function=function: function(value, None, None))
            self.assertEqual(self.refuses(BadRules, function, (1, ((A, 0),)), 5, 5).index, 0)
            self.refuses(TooLarge, function, MORE_RULES, 5, 5)
            for bad in [2, -1, True, False, "0", (), [0], (None,), 10 ** 20]:
                self.refuses(BadKind, function, DOC_RULES, bad, None)
                self.refuses(BadKind, function, DOC_RULES, 0, bad)
                # the kinds are looked at ahead of the spots
                self.refuses(BadKind, function, SPOTS_201, bad, 0)
                self.refuses(BadKind, function, SPOTS_201, 0, bad)
            self.refuses(TooLarge, function, SPOTS_201, None, 0)
            self.assertIsInstance(function(SPOTS_200, 0, 1), (bool, Free, Bound))
        self.refuses_strange(BadRules, free_pairs)
        self.refuses(TooLarge, free_pairs, MORE_RULES)
        self.refuses(TooLarge, free_pairs, SPOTS_201)
        self.assertIs(judge_free(SPOTS_200, 0, 1).shows(SPOTS_200, 0, 1), True)


class Back(Case):
    def test_plain(self):
        self.assertIs(come_back(ONE_TWO, [(1, "aa"), (0, "a")]), True)
        self.assertIs(come_back(ONE_TWO, [(0, "a"), (1, "aa")]), False)
        self.assertIs(come_back(ONE_TWO, ((0, "a"), (None, "b"), (0, "a"))), True)
        self.assertIs(come_back(FAR_RULES, [(0, "aab"), (None, "a"), (None, "a")]), True)
        self.assertIs(come_back(FAR_RULES, [(None, "a"), (0, "ab")]), False)

    def test_no_pieces_at_all(self):
        for rules in (ONE_TWO, NO_RULES, SPOTS_201):
            self.assertIs(come_back(rules, []), True)
            self.assertIs(come_back(rules, ()), True)

    def test_pieces_that_are_others_together(self):
        # the text of both is read as two pieces, too, but as others
        rules = (2, ((("row", A, A, B), ("word", "")), (("row", A, A), ("word", "")), (B, ("word", ""))))
        self.assertIs(come_back(rules, [(1, "aa"), (2, "b")]), False)
        rules = (1, ((("again", A, 1, 2, "many"), ("word", "")),))
        self.assertIs(come_back(rules, [(0, "a"), (0, "aa")]), False)
        self.assertIs(come_back(rules, [(0, "aa"), (0, "a")]), True)

    def test_made_up_pieces(self):
        counts = {True: 0, False: 0}
        for chance in chances(80):
            size = chance.choice([1, 2, 3])
            rules = few_rules(chance, size)
            single = [(found[0][0], text) for text in texts(size, 4, 1) for found in [walk(table_for(rules), text)]
                      if len(found) == 1]
            pairs = free_pairs(rules)
            for _ in range(20):
                some = [chance.choice(single) for _ in range(chance.randint(1, 4))]
                text, expected = "".join(text for _, text in some), []
                for kind, part in some:
                    past = expected[-1][2] if expected else 0
                    expected.append((kind, past, past + len(part)))
                with self.subTest(rules=rules, some=some):
                    self.assertIs(come_back(rules, some), walk(table_for(rules), text) == expected)
                    counts[come_back(rules, some)] += 1
                    if all((one[0], other[0]) in pairs for one, other in zip(some, some[1:])):
                        self.assertIs(come_back(rules, some), True)
        self.assertGreater(min(counts.values()), 100)

    def test_refusals(self):
        self.refuses_strange(BadRules, lambda value: come_back(value, None))
        self.refuses(TooLarge, come_back, MORE_RULES, None)
        for some in [None, True, 0, "a", {(0, "a"): 1}, {}, len, b"a"]:
            self.assertIsNone(self.refuses(BadPieces, come_back, ONE_TWO, some).index)
        for item in [None, 0, "a", (), (0,), (0, "a", 1), [0, "a"], (0, ""), (None, ""), (0, "b"), (0, "aa"), (1, "a"),
                     (None, "a"), (None, "bb"), (2, "a"), (-1, "a"), (False, "a"), (True, "aa"), ("0", "a"), ("a", 0),
                     (0, "c"), (0, ["a"]), (0, None), (None, "c"), (0, "ab"), (1, "aaa"), ([0], "a"), (0, 0)]:
            with self.subTest(item=item):
                self.assertEqual(self.refuses(BadPieces, come_back, ONE_TWO, [item]).index, 0)
                self.assertEqual(self.refuses(BadPieces, come_back, ONE_TWO, ((0, "a"), (1, "aa"), item, None)).index, 2)

    def test_many_pieces(self):
        self.assertIs(come_back(ONE_TWO, [(1, "aa"), (None, "b")] * 20000), True)
        some = [(1, "aa")] * 3
        come_back(ONE_TWO, some)
        self.assertEqual(some, [(1, "aa")] * 3)


if __name__ == "__main__":
    unittest.main()
