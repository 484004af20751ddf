"""[10] Agreement."""

import unittest

from patternways.agreeing import Agree, Astray, agreement, judge_agreement
from patternways.errors import BadRules, TooLarge
from patternways.readings import outlook, pieces, spots
from patternways.rules import table_of_rules
from tests.brute import chances, few_rules, good_rules, text_spots, texts
from tests.case import (DOC_RULES, FAR_RULES, MORE_RULES, NO_RULES, SPOTS_200, SPOTS_201, TWOS, Case)

A, B = ("one", "a"), ("one", "b")
AB = (2, ((("row", A, B), ("word", "")),))
# five a and a b: an end can go on with a piece that has begun ahead of it, or not
LATE = (2, ((("row", ("again", A, 3, 3, "many"), A, A, B), ("word", "")),))
LONG = {1: (6, 9), 2: (3, 5), 3: (2, 3)}


def borders(rules, ahead, rest):
    """The borders of a text in its rest, counted from the beginning of the rest."""
    found = [0] + [past for _, _, past in pieces(rules, ahead + rest)]
    return {place - len(ahead) for place in found}


def agreeing_place(rules, one, other, rest):
    """The least place of a rest from which two texts agree."""
    return min(place for place in borders(rules, one, rest) & borders(rules, other, rest) if place >= 0)


def triples_of(rules):
    """All triples of two spots that are not both at borders."""
    some = spots(rules)
    return {(one, other, view) for one, view in some for other, same in some
            if same == view and not (one is None and other is None)}


class Agreement(Case):
    def test_plain(self):
        self.assertEqual([agreement(rules) for rules in (NO_RULES, AB, DOC_RULES, TWOS, FAR_RULES)],
                         [0, 1, 2, None, None])
        self.assertEqual(agreement((1, ((A, ("word", "aa")),))), 0)
        self.assertEqual(agreement((1, ((("again", A, 1, None, "many"), ("word", "")),))), None)
        self.assertEqual(agreement(LATE), 5)
        self.assertEqual(judge_agreement(NO_RULES), Agree(0, "", "", "", {}))

    def test_a_text_and_itself(self):
        # one text alone can have no border for long
        found = judge_agreement(FAR_RULES)
        self.assertIsInstance(found, Astray)
        self.assertIs(Astray("a", "a", "a", "ab").shows(FAR_RULES), True)
        self.assertIs(Agree(2, "a", "a", "ab", judge_agreement(DOC_RULES).heights).shows(DOC_RULES), True)

    def test_made_up_rules(self):
        numbers = []
        for chance in chances(150):
            size = chance.choice([1, 2, 2, 3])
            rules = few_rules(chance, size) if chance.random() < 0.7 else good_rules(chance, size)
            try:
                found = judge_agreement(rules)
            except TooLarge:
                continue
            with self.subTest(rules=rules):
                self.assertIs(found.shows(rules), True)
                self.assertEqual(found, judge_agreement(rules))
                numbers.append(agreement(rules))
                if isinstance(found, Agree):
                    self.look_at_agree(chance, rules, found)
                else:
                    self.look_at_astray(rules, found)
        self.assertLessEqual({None, 0, 1, 2, 3}, set(numbers))

    def look_at_agree(self, chance, rules, found):
        """No texts agree later than they should, and two of them just then; all heights fall along texts."""
        self.assertEqual(agreement(rules), found.number)
        self.assertEqual(agreeing_place(rules, found.one, found.other, found.rest), found.number)
        self.assertEqual(set(found.heights), triples_of(rules))
        self.assertTrue(all(1 <= height <= found.number for height in found.heights.values()))
        size, table = rules[0], table_of_rules(rules)
        aheads, rests = [texts(size, most) for most in LONG[size]]
        for _ in range(60):
            one, other, rest = chance.choice(aheads), chance.choice(aheads), chance.choice(rests)
            self.assertLessEqual(agreeing_place(rules, one, other, rest), found.number)
            some, others = [text_spots(rules, table, text + rest)[len(text):] for text in (one, other)]
            before = found.number + 1
            for (first, view), (second, same) in zip(some, others):
                self.assertEqual(view, same)
                if first is None and second is None:
                    break
                self.assertLess(found.heights[(first, second, view)], before)
                before = found.heights[(first, second, view)]

    def look_at_astray(self, rules, found):
        """The texts agree as late as one likes."""
        self.assertIsNone(agreement(rules))
        for many in (1, 2, 5):
            rest = found.ring * many + found.rest
            self.assertGreater(agreeing_place(rules, found.one, found.other, rest), len(found.ring) * many)


class Evidence(Case):
    view_b = (1, None, None, 0, None, None)
    view_ab = (None, 0, None, None, None, None)

    def test_agree_shows(self):
        heights = judge_agreement(DOC_RULES).heights
        self.assertEqual(set(heights), triples_of(DOC_RULES))
        found = Agree(2, "a", "", "ab", heights)
        last, first = (None, 3, self.view_b), (None, 1, self.view_ab)
        self.assertEqual([heights[last], heights[first]], [1, 2])
        fewer = [{other: heights[other] for other in heights if other != one} for one in heights]
        more = [{**heights, triple: 1} for triple in [
            (None, None, self.view_b), (None, 6, self.view_b), (-1, None, self.view_b), (None, True, self.view_b),
            (False, 2, self.view_b), (None, 2, (1,)), (None, 2, None), (None, 2, "b"), (2, self.view_b), 0, (), "abc",
            (None, 2, (True, None, None, 0, None, None)), (None, 2, (0, 0, 0, 0, 0, 0)), (2, 2, self.view_b, 0)]]
        other = [{**heights, first: height} for height in (0, 1, 3, -1, True, None, "1")]
        self.shows_only_as_made(found, (DOC_RULES,), {
            "number": [0, 1, 3, -1, True, None, "2"],
            "one": ["", "b", "ab", "aab", "abc", "c", None, 0, ["a"]], "other": ["abc", None, 0, [""]],
            "rest": ["", "a", "b", "ba", "bab", "aa", "c", None, 2],
            "heights": [None, {}, [*heights], list(heights.items()), *fewer, *more, *other, {**heights, last: 2},
                        {**heights, last: 0}]})

    def test_more_heights(self):
        # from what are not two spots, no letter leads: so each height will do for it
        heights = judge_agreement(DOC_RULES).heights
        self.assertNotIn((2, self.view_b), spots(DOC_RULES))
        for triple in [(2, None, self.view_b), (None, 5, self.view_ab), (4, 5, (None,) * 6), (0, 0, self.view_ab)]:
            for height, expected in [(1, True), (2, True), (3, False), (0, False), (True, False)]:
                found = Agree(2, "", "a", "ab", {triple: height, **heights})
                self.assertIs(found.shows(DOC_RULES), expected)
        self.assertIs(Agree(0, "", "", "", {(0, None, (None,)): 1}).shows(NO_RULES), False)
        # dicts may be in any order
        again = {triple: heights[triple] for triple in reversed(heights)}
        self.assertIs(Agree(2, "", "a", "abb", again).shows(DOC_RULES), True)

    def test_other_agrees(self):
        heights = judge_agreement(DOC_RULES).heights
        for one, other, rest in [("bbb", "aabaaa", "ab"), ("a", "", "abbb"), ("aa", "a", "ab"), ("a", "a", "aba")]:
            expected = agreeing_place(DOC_RULES, one, other, rest) == 2
            self.assertIs(Agree(2, one, other, rest, heights).shows(DOC_RULES), expected)
        self.assertIs(Agree(2, "a", "", "ab", heights).shows(DOC_RULES), True)
        self.assertIs(Agree(2, "b", "ab", "ab", heights).shows(DOC_RULES), False)
        self.assertIs(Agree(0, "ab", "a", "ba", {}).shows(NO_RULES), True)
        self.assertIs(Agree(0, "a", "a", "aa", {}).shows(TWOS), False)
        self.assertIs(Agree(2, "", "a", "ab", heights).shows(FAR_RULES), False)

    def test_heights_only_have_to_fall(self):
        heights = judge_agreement(LATE).heights
        self.assertEqual(sorted(set(heights.values())), [1, 2, 3, 4, 5])
        texts_for = ("", "a", "aaaab")
        self.assertIs(Agree(5, *texts_for, heights).shows(LATE), True)
        highest = max(heights, key=lambda triple: heights[triple])
        self.assertIs(Agree(5, *texts_for, {**heights, highest: 6}).shows(LATE), False)
        self.assertIs(Agree(6, *texts_for, {**heights, highest: 6}).shows(LATE), False)
        for triple, height in heights.items():
            self.assertIs(Agree(5, *texts_for, {**heights, triple: height - 1}).shows(LATE), False)
        # no letter leads to the midst of cb from where two texts do not agree: a greater height will do there
        rules = (3, ((("row", A, A, A, B), ("word", "")), (("row", ("one", "c"), B), ("word", ""))))
        found = judge_agreement(rules)
        rows, _ = table_of_rules(rules)
        triple = (None, rows[0][2], outlook(rules, "b"))
        self.assertEqual([found.number, found.heights[triple]], [3, 1])
        for height, expected in [(2, True), (3, True), (4, False), (0, False)]:
            found.heights[triple] = height
            self.assertIs(found.shows(rules), expected)

    def test_astray_shows(self):
        found = judge_agreement(TWOS)
        self.assertIsInstance(found, Astray)
        found = Astray("", "a", "aa", "aa")
        self.shows_only_as_made(found, (TWOS,), {
            "one": ["a", "aaa", None, "b", 0, [""]], "other": ["", "aa", None, "b", 0, ["a"]],
            "ring": ["", "a", "aaa", None, "b", 2], "rest": [None, "b", 0, ("a", "a")]})
        for rest in ("", "a", "aaaaa"):
            # at the end of the text there is a border, and the outlooks ahead of the ring and behind it are the same
            self.assertIs(Astray("", "a", "aa", rest).shows(TWOS), rest not in ("", "a"))
        self.assertIs(Astray("aaa", "aaaaaa", "aaaa", "aaa").shows(TWOS), True)
        self.assertIs(Astray("", "a", "aa", "aa").shows(DOC_RULES), False)

    def test_astray_needs_the_same_spots(self):
        # ahead of this ring and behind it there are other stands
        rules = (2, ((("row", A, A, ("again", A, 0, None, "many"), B), ("word", "")),))
        self.assertIs(Astray("a", "a", "a", "aab").shows(rules), False)
        self.assertIs(Astray("aa", "aa", "a", "aab").shows(rules), True)
        self.assertIs(Astray("aa", "aaa", "a", "aab").shows(rules), True)
        # and here other outlooks
        self.assertIs(Astray("aa", "aa", "a", "b").shows(rules), False)
        # a ring over a border of both
        self.assertIs(Astray("", "", "aab", "").shows(DOC_RULES), False)
        self.assertIs(Astray("a", "a", "aba", "ab").shows(DOC_RULES), False)

    def test_astray_at_one_end(self):
        # in twos, one text has a border where the other one has none, at each place
        self.assertIs(Astray("", "", "aa", "aa").shows(TWOS), False)
        self.assertIs(Astray("a", "a", "aa", "aa").shows(TWOS), False)

    def test_equality_and_copies(self):
        one = Agree(1, "a", "b", "", {(None, 1, ()): 1})
        self.assertTrue(one == Agree(1, "a", "b", "", {(None, 1, ()): 1}))
        for other in (Agree(2, "a", "b", "", one.heights), Agree(1, "b", "b", "", one.heights),
                      Agree(1, "a", "a", "", one.heights), Agree(1, "a", "b", "a", one.heights),
                      Agree(1, "a", "b", "", {}), Astray("a", "b", "", "")):
            self.assertTrue(one != other)
        self.assertTrue(Astray("a", "b", "a", "b") == Astray("a", "b", "a", "b"))
        for other in (Astray("b", "b", "a", "b"), Astray("a", "a", "a", "b"), Astray("a", "b", "b", "b"),
                      Astray("a", "b", "a", "a"), one):
            self.assertTrue(Astray("a", "b", "a", "b") != other)
        heights = {(None, 1, ()): 1}
        found = Agree(1, "a", "b", "", heights)
        heights.clear()
        self.assertEqual(found.heights, {(None, 1, ()): 1})
        judge_agreement(DOC_RULES).heights.clear()
        self.assertEqual(len(judge_agreement(DOC_RULES).heights), 6)


class Refusals(Case):
    def functions(self):
        return (judge_agreement, agreement, Agree(0, "", "", "", {}).shows, Astray("", "a", "aa", "aa").shows)

    def test_refusals(self):
        for function in self.functions():
            self.refuses_strange(BadRules, function)
            self.assertEqual(self.refuses(BadRules, function, (1, ((A, ("word", "")), [A, A]))).index, 1)
            self.refuses(TooLarge, function, MORE_RULES)
            self.refuses(TooLarge, function, SPOTS_201)

    def test_two_hundred_spots(self):
        self.assertIs(judge_agreement(SPOTS_200).shows(SPOTS_200), True)


if __name__ == "__main__":
    unittest.main()
