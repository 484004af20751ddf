"""[23] Tries."""

import unittest

from patternways.errors import BadPattern, BadSize, BadText
from patternways.trying import Climbing, Doubling, growth, tries, widths
from tests.brute import chances, texts
from tests.brute_ways import Sorts, good_grouped, stops_along
from tests.case import Case

A, B, AB = ("one", "a"), ("one", "b"), ("one", "ab")
NONE, EMPTY = ("none",), ("empty",)


def again(pattern, least=0, most=None, way="many"):
    """A pattern again."""
    return ("again", pattern, least, most, way)


def loops(many):
    """So many times a pattern of letters again and again, one behind the other."""
    return ("row", *[again(A)] * many)


DEEP = again(again(A), way="few")
# what is read by a first pattern and by a second one is the same: with each letter, all is begun anew
TWICE = again(("any", A, A))
# the sorts climb by texts of two letters
SLOW = ("row", again(("row", A, B)), again(("row", A, B)))
# two different pairs climb, but one cannot go on from the one to the other
APART = ("any", loops(2), ("row", again(B), again(B)))


class Widths(Case):
    def test_plain(self):
        self.assertEqual([widths(1, loops(2), "aa"), tries(1, loops(2), "aa")], [[3, 5, 7], 15])
        self.assertEqual([widths(1, A, text) for text in ("", "a", "aa", "aaa")],
                         [[1], [1, 1], [1, 1, 0], [1, 1, 0, 0]])
        self.assertEqual([widths(2, NONE, "ab"), widths(2, EMPTY, "ab"), tries(2, EMPTY, "ab")],
                         [[0, 0, 0], [1, 0, 0], 1])
        self.assertEqual([tries(2, ("any", A, B, AB), text) for text in ("", "a", "b")], [3, 5, 5])

    def test_the_empty_text(self):
        for pattern, width in ((A, 1), (loops(2), 3), (loops(4), 5), (NONE, 0), (("any", EMPTY, EMPTY, A), 3)):
            self.assertEqual([widths(2, pattern, ""), tries(2, pattern, "")], [[width], width])

    def test_growth_of_widths(self):
        self.assertEqual(widths(1, again(A), "a" * 50), [2] * 51)
        self.assertEqual(widths(1, TWICE, "a" * 9), [3 * 2 ** many for many in range(10)])
        self.assertEqual(widths(1, loops(2), "a" * 400)[-1], 803)
        self.assertEqual(widths(1, again(DEEP), "a" * 200)[-1] > 2 ** 200, True)
        self.assertEqual(tries(1, TWICE, "a" * 300), 3 * (2 ** 301 - 1))

    def test_made_up(self):
        for chance in chances(150):
            size = chance.choice([1, 2, 2, 3])
            pattern = good_grouped(chance, size, chance.choice([2, 3, 4]))
            for text in texts(size, {1: 5, 2: 4, 3: 3}[size]):
                along = [len(found) for found in stops_along(pattern, text)]
                self.assertEqual(widths(size, pattern, text), along)
                self.assertEqual(tries(size, pattern, text), sum(along))

    def test_refusals(self):
        for function in (tries, widths):
            self.refuses_strange(BadSize, lambda size: function(size, None, None))
            self.refuses_strange(BadPattern, lambda pattern: function(2, pattern, None))
            self.refuses_strange(BadText, lambda text: function(2, A, text))
            self.refuses(BadSize, function, True, A, "")
            self.refuses(BadSize, function, 4, A, "")
            self.refuses(BadPattern, function, 1, B, "b")
            self.refuses(BadPattern, function, 1, ["one", "a"], "")
            self.refuses(BadText, function, 1, A, "b")
            self.refuses(BadText, function, 2, A, ["a"])


class Growth(Case):
    def test_powers(self):
        for many in (2, 3, 4):
            found = growth(1, loops(many))
            self.assertEqual([found.number, len(found.ladder), found.begin], [many - 1, many - 1, ""])
        for pattern in (A, again(A), NONE, EMPTY, ("any", A, A), again(A, 0, 3), again(("row", A, B)),
                        ("row", again(A), again(B)), ("group", again(again(A, 1, 1)))):
            found = growth(2, pattern)
            self.assertEqual([found.number, found.ladder, found.begin], [0, [], ""])
            self.assertIs(found.shows(2, pattern), True)
        self.assertEqual(growth(2, SLOW).number, 1)
        self.assertEqual(growth(2, APART).number, 1)
        self.assertEqual(growth(2, ("row", again(A), B, again(A))).number, 0)
        self.assertEqual(growth(1, NONE), Climbing(0, "", [], {}))

    def test_ladders_with_letters_between(self):
        pattern = ("row", B, again(A), again(A), ("row", B, again(A), again(A)))
        found = growth(2, pattern)
        self.assertEqual([found.number, found.begin, len(found.ladder)], [2, "b", 2])
        self.assertEqual(found.ladder[0][3], "ab")
        self.assertIs(found.shows(2, pattern), True)

    def test_doubling(self):
        for pattern in (DEEP, TWICE, again(again(A)), again(("row", again(A), again(A))),
                        ("row", B, again(("any", A, AB))), again(again(A, 1, 2), 0, None, "few"),
                        ("group", again(("group", again(("group", A))))), ("row", loops(2), DEEP)):
            found = growth(2, pattern)
            self.assertIsInstance(found, Doubling)
            self.assertIs(found.shows(2, pattern), True)
        # such turns are empty and are none: there is only one way to go on
        self.assertIsInstance(growth(1, again(again(A, 0, 1))), Climbing)

    def test_levels_by_letters_alone(self):
        # the sort that is begun with climbs by no text, but it has one that does
        pattern = ("row", B, loops(2))
        found = growth(2, pattern)
        self.assertEqual(sorted(found.levels.values()), [0, 0, 1, 1])
        self.assertIs(found.shows(2, pattern), True)

    def test_made_up(self):
        seen = set()
        for chance in chances(500):
            size = chance.choice([1, 1, 2, 3])
            pattern = good_grouped(chance, size, chance.choice([2, 3, 4]))
            with self.subTest(pattern=pattern):
                found = growth(size, pattern)
                self.assertEqual(found, growth(size, pattern))
                self.assertIs(found.shows(size, pattern), True)
                plain = Sorts(size, pattern)
                if isinstance(found, Doubling):
                    seen.add(None)
                    self.assertTrue(plain.is_doubling(found.begin, found.ring, found.frames))
                else:
                    seen.add(found.number)
                    self.assertTrue(plain.is_climbing(found.number, found.begin, found.ladder, found.levels))
        self.assertLessEqual({None, 0, 1, 2}, seen)

    def test_widths_stay_below(self):
        for many in (2, 3, 4):
            width = widths(1, loops(many), "a" * 60)
            power = growth(1, loops(many)).number
            self.assertLessEqual(max(found // (index + 1) ** power for index, found in enumerate(width)), 8)
            self.assertGreater(width[60], width[30] * 9 // 5)

    def test_refusals(self):
        made = (growth, Doubling("", "a", ()).shows, Climbing(0, "", [], {}).shows)
        for function in made:
            self.refuses_strange(BadSize, lambda size: function(size, None))
            self.refuses_strange(BadPattern, lambda pattern: function(2, pattern))
            self.refuses(BadSize, function, True, A)
            self.refuses(BadPattern, function, 1, B)
            self.refuses(BadPattern, function, 1, list(A))


class Evidence(Case):
    def test_doubling(self):
        pattern = ("row", B, DEEP)
        found = growth(2, pattern)
        self.shows_only_as_made(found, (2, pattern), {
            "begin": ["", "a", "bb", "c", None, ["b"]], "ring": ["", "b", "ab", "ac", 1, None],
            "frames": [(), found.frames[1:], (A,), list(found.frames), None, found.frames + (A,),
                       tuple(("turn", frame[1], bool(frame[2]), frame[3]) if frame[0] == "turn" else frame
                             for frame in found.frames),
                       tuple((*frame[:3], 0) if frame[0] == "turn" else frame for frame in found.frames)]})
        self.assertIs(Doubling("b", "aaa", found.frames).shows(2, pattern), True)
        self.assertIs(Doubling("baa", "aa", found.frames).shows(2, pattern), True)
        self.assertIs(found.shows(2, loops(2)), False)

    def test_just_twice(self):
        # twice, as the same stop comes twice, though there is one sort alone
        twice = growth(1, TWICE)
        self.assertEqual(twice, Doubling("", "a", (A, ("turn", TWICE, 0, False))))
        self.assertIs(twice.shows(1, TWICE), True)
        # two ways, one behind the other, are no way that doubles
        self.assertIs(Doubling("", "a", (A, ("turn", again(A), 0, False))).shows(1, again(A)), False)
        # no evidence of climbing for what doubles: not even if it has the form
        levels = {(A, ("turn", TWICE, 0, False)): 0, (): 0}
        self.assertIs(Climbing(0, "", [], levels).shows(1, TWICE), False)

    def test_climbing(self):
        pattern = ("row", B, loops(3))
        found = growth(2, pattern)
        first, second = found.ladder
        more = {sort: level + 1 for sort, level in found.levels.items()}
        self.assertEqual(found.number, 2)
        self.shows_only_as_made(found, (2, pattern), {
            "number": [0, 1, 3, True, None, "2"],
            "begin": ["", "a", "bb", "c", None],
            "ladder": [[], [first], [second, first], [first, second, second], [first, list(second)],
                       [first, (*second[:3], "a")], [first, (*second[:2], "", "")], [first, (*second[:2], "b", "")],
                       [first, (second[1], second[0], *second[2:])], [(*first[:3], "b"), second], [first, second[:3]],
                       [(first[0], first[0], *first[2:]), second], [(A, *first[1:]), second], None, [first, None],
                       [(first[0], first[1], "c", ""), second], [first, (*second[:3], None)]],
            "levels": [{}, more, {sort: 0 for sort in found.levels}, {**found.levels, (B,): 0},
                       {sort: level for sort, level in found.levels.items() if sort != ()},
                       {sort: bool(level) if level < 2 else level for sort, level in found.levels.items()},
                       {**found.levels, (): -1}, {**found.levels, (): 1}, {**found.levels, (): None}, None]})

    def test_climbing_made_otherwise(self):
        pattern = ("row", again(A), again(A), again(A), again(B))
        found = growth(2, pattern)
        first, second, third = [rest for rest in found.levels if rest and rest[0] == A]
        levels = dict(reversed(found.levels.items()))
        ladder = [(first, second, "aaa", "a"), (second, third, "a", "")]
        self.assertIs(Climbing(2, "aa", ladder, levels).shows(2, pattern), True)
        self.assertIs(Climbing(2, "", tuple(ladder), levels).shows(2, pattern), True)
        # a pair may begin with a sort that the one before has by a text
        one, other = ("row", B, loops(2)), ("row", loops(2), B)
        for some in (one, other):
            made = growth(2, some)
            pair = made.ladder[0]
            self.assertIs(Climbing(1, made.begin, [(*pair[:2], "aa", "")], made.levels).shows(2, some), True)
        apart = growth(2, APART)
        others = [rest for rest in apart.levels if rest and rest[0] == B]
        ladder = [(others[0], others[1], "bb", "")]
        self.assertIs(Climbing(1, "", ladder, apart.levels).shows(2, APART), True)
        self.assertIs(Climbing(1, "", ladder + ladder, apart.levels).shows(2, APART), False)

    def test_other_levels(self):
        # nothing climbs from the last letters on: their level is free, as long as no sort has one with a greater one
        pattern = ("any", loops(2), ("row", B, B, B))
        found = growth(2, pattern)
        levels = dict(found.levels)
        levels[(B, B, B)] = 1
        self.assertNotEqual(levels, found.levels)
        self.assertIs(Climbing(1, found.begin, found.ladder, levels).shows(2, pattern), True)
        levels[(B,)] = 1
        self.assertIs(Climbing(1, found.begin, found.ladder, levels).shows(2, pattern), False)

    def test_copies(self):
        ladder, levels = [((A,), (A,), "a", "")], {(A,): 0}
        made = Climbing(1, "", ladder, levels)
        ladder.clear()
        levels[()] = 1
        self.assertEqual(made, Climbing(1, "", (((A,), (A,), "a", ""),), {(A,): 0}))
        self.assertIsInstance(made.ladder, list)
        self.assertTrue(made != Climbing(1, "", [], {(A,): 0}))
        self.assertFalse(made == Doubling("", "", ()))
        self.assertTrue(Doubling("", "a", ()) != Doubling("", "b", ()))
        found = growth(1, loops(2))
        found.levels.clear()
        found.ladder.clear()
        self.assertIs(growth(1, loops(2)).shows(1, loops(2)), True)


if __name__ == "__main__":
    unittest.main()
