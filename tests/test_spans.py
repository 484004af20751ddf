"""[22] Alike in groups."""

import unittest

from patternways.errors import BadPattern, BadSize, TooLarge, Unequal
from patternways.spans import Twin, Unlike, compare_groups
from patternways.tables import are_alike, table_of
from patternways.ways import first_way
from tests.brute import chances, texts
from tests.brute_ways import good_grouped, is_twin, numbered, standing_behind
from tests.case import Case

A, B, AB, ABC, AC, BC = [("one", letters) for letters in ("a", "b", "ab", "abc", "ac", "bc")]
EMPTY, NONE = ("empty",), ("none",)


def again(pattern, least=0, most=None, way="many"):
    """A pattern again."""
    return ("again", pattern, least, most, way)


def group(pattern):
    """A group."""
    return ("group", pattern)


MANY = ("row", group(again(A)), group(again(A)))
FEW = ("row", group(again(A, way="few")), group(again(A)))
# patterns of which just 300 standings come about, and just 301
JUST_300 = (2, again(("row", group(again(AB, 0, 1, "few")), group(AB), again(("row", A, AB), 2, 3))),
            again(group(("row", group(A), ("any", A, A), ("row", B, AB))), 0, None, "few"))
ALSO_300 = (3, again(("any", ("row", ABC, group(AC)), group(("row", ABC, BC, ABC))), 0, None, "few"),
            ("row", group(again(("any", BC, B), 1, 1)), group(ABC)))
JUST_301 = (3, again(("row", AB, AC, group(again(ABC, 1))), 1),
            again(("any", group(again(BC)), ("row", again(AC, 1, 3, "few"), ("row", ABC, BC)))))


class Groups(Case):
    def twin(self, size, one, other):
        """Two patterns are alike in groups."""
        found = compare_groups(size, one, other)
        self.assertIsInstance(found, Twin)
        self.assertIs(found.shows(size, one, other), True)
        self.assertIs(Unlike("").shows(size, one, other), False)
        return found

    def unlike(self, size, one, other):
        """Two patterns are not alike in groups."""
        found = compare_groups(size, one, other)
        self.assertIsInstance(found, Unlike)
        self.assertIs(found.shows(size, one, other), True)
        self.assertNotEqual(first_way(size, one, found.text), first_way(size, other, found.text))
        return found.text

    def test_alike_and_written_otherwise(self):
        self.twin(1, ("any", A, A), A)
        self.twin(1, again(A, 1), ("row", A, again(A, way="few")))
        self.twin(2, group(("any", A, B)), group(AB))
        self.twin(2, ("row", group(A), ("any", B, EMPTY)), ("row", group(A), again(B, 0, 1)))
        self.twin(1, again(group(A)), ("any", ("row", again(A), group(A)), EMPTY))
        self.twin(2, ("row", group(A), group(B)), ("row", group(A), group(("row", B, EMPTY))))
        self.twin(1, again(again(A, way="few")), again(A))

    def test_with_itself(self):
        for pattern in (A, NONE, EMPTY, MANY, FEW, again(("any", group(A), group(B))), group(group(again(A, 1, 3)))):
            self.twin(2, pattern, pattern)
        self.twin(3, MANY, MANY)

    def test_other_groups(self):
        self.assertEqual(self.unlike(1, MANY, FEW), "a")
        self.assertEqual(self.unlike(1, ("row", group(A), A), ("row", A, group(A))), "aa")
        self.assertEqual(self.unlike(1, ("any", group(A), group(A)), ("any", group(NONE), group(A))), "a")
        self.assertEqual(self.unlike(1, again(group(A)), group(again(A))), "")
        # the same words, and groups that are given something at other places
        self.assertEqual(self.unlike(2, again(group(AB), 1), ("row", group(AB), again(AB))), "aa")

    def test_other_words(self):
        self.assertEqual(self.unlike(2, A, B), "a")
        self.assertEqual(self.unlike(1, group(again(A)), group(again(A, 1))), "")
        self.assertEqual(self.unlike(1, group(again(A, 0, 3)), group(again(A))), "aaaa")
        self.assertEqual(self.unlike(1, NONE, EMPTY), "")

    def test_without_groups(self):
        for one, other in ((again(A), again(again(A, 0, 1), 0, None, "few")), (A, AB), (NONE, ("row", A, NONE)),
                           (("any", ("row", A, B), ("row", A, A)), ("row", A, AB))):
            found = compare_groups(2, one, other)
            self.assertIs(isinstance(found, Twin), are_alike(table_of(2, one), table_of(2, other)))

    def test_made_up(self):
        seen = []
        for chance in chances(1200):
            size = chance.choice([1, 2, 2, 3])
            one, other = good_grouped(chance, size, 2), good_grouped(chance, size, 2)
            if chance.random() < 0.3:
                other = ("any", one, NONE) if chance.random() < 0.5 else ("row", one, EMPTY)
            if numbered(one)[1] != numbered(other)[1]:
                self.refuses(Unequal, compare_groups, size, one, other)
                continue
            try:
                found = compare_groups(size, one, other)
            except (TooLarge, BadPattern):
                continue
            with self.subTest(one=one, other=other):
                self.assertIs(found.shows(size, one, other), True)
                parted = [text for text in texts(size, {1: 6, 2: 4, 3: 3}[size])
                          if first_way(size, one, text) != first_way(size, other, text)]
                seen.append(isinstance(found, Twin) and len(found.texts) > 3)
                if isinstance(found, Twin):
                    self.assertEqual(parted, [])
                    self.assertTrue(len(found.texts) > 20 or is_twin(size, one, other, found.texts))
                elif parted:
                    self.assertEqual(found.text, parted[0])
        self.assertGreater(sum(seen), 50)

    def test_limits(self):
        for given in (JUST_300, ALSO_300):
            self.assertIs(compare_groups(*given).shows(*given), True)
            self.refuses(Unequal, compare_groups, given[0], given[1], A)
        for function in (compare_groups, Twin([""]).shows, Unlike("a").shows):
            self.refuses(TooLarge, function, *JUST_301)

    def test_just_so_many_standings(self):
        for (size, one, other), many in ((ALSO_300, 300), (JUST_301, 301)):
            known, queue = {standing_behind(one, other, "")}, [""]
            for text in queue:
                for letter in "abc"[:size]:
                    standing = standing_behind(one, other, text + letter)
                    if standing not in known:
                        known.add(standing)
                        queue.append(text + letter)
            self.assertEqual(len(queue), many)

    def test_many_standings_with_an_early_difference(self):
        # a short text is enough, but too many standings come about
        self.assertNotEqual(first_way(JUST_301[0], JUST_301[1], ""), first_way(JUST_301[0], JUST_301[2], ""))
        self.refuses(TooLarge, compare_groups, *JUST_301)

    def test_refusals(self):
        for function in (compare_groups, Twin([""]).shows, Unlike("").shows):
            self.refuses_strange(BadSize, lambda size: function(size, None, None))
            self.refuses_strange(BadPattern, lambda one: function(2, one, None))
            self.refuses_strange(BadPattern, lambda other: function(2, group(A), other))
            self.refuses(BadSize, function, True, A, A)
            self.refuses(BadPattern, function, 1, B, A)
            self.refuses(BadPattern, function, 1, A, B)
            self.refuses(BadPattern, function, 1, A, ["one", "a"])
            self.refuses(Unequal, function, 1, A, group(A))
            self.refuses(Unequal, function, 3, JUST_301[1], A)


class Evidence(Case):
    def test_twins(self):
        one, other = again(group(A), 1), ("row", again(A), group(A))
        found = compare_groups(2, one, other)
        self.assertTrue(is_twin(2, one, other, found.texts))
        self.shows_only_as_made(found, (2, one, other), {
            "texts": [[], [""], found.texts[1:], found.texts[:-1], [*found.texts, "c"], [*found.texts, None], None]})

    def test_twins_made_otherwise(self):
        one, other = again(group(A), 1), ("row", again(A), group(A))
        found = compare_groups(2, one, other)
        longer = found.texts[::-1] + ["aaaab", "aaaaaa"]
        self.assertTrue(is_twin(2, one, other, longer))
        self.assertIs(Twin(longer).shows(2, one, other), True)
        self.assertIs(Twin(tuple(longer)).shows(2, one, other), True)
        others = ["" if text == "" else text.replace("a", "aaaa") for text in found.texts]
        self.assertEqual(Twin(others).shows(2, one, other), is_twin(2, one, other, others))
        self.assertIs(found.shows(1, one, other), False)
        self.assertIs(found.shows(2, one, one), Twin(found.texts).shows(2, one, one))

    def test_unlike(self):
        found = compare_groups(2, MANY, FEW)
        self.shows_only_as_made(found, (2, MANY, FEW), {"text": ["", "b", "ab", "ac", None, ["a"]]})
        for text in ("aa", "a" * 300):
            self.assertIs(Unlike(text).shows(1, MANY, FEW), True)
        self.assertIs(Unlike("a").shows(1, MANY, MANY), False)
        # no Twin for patterns that are not alike
        self.assertIs(Twin(compare_groups(1, MANY, MANY).texts + ["a", "aa", "aaa"]).shows(1, MANY, FEW), False)

    def test_copies(self):
        some = [""]
        made = Twin(some)
        some.append("a")
        self.assertEqual(made, Twin(("",)))
        self.assertIsInstance(Twin(("",)).texts, list)
        self.assertTrue(made != Twin(["", "a"]))
        self.assertFalse(made == Unlike(""))
        self.assertTrue(Unlike("a") != Unlike("b"))
        found = compare_groups(1, MANY, MANY)
        found.texts.clear()
        self.assertEqual(compare_groups(1, MANY, MANY), compare_groups(1, MANY, MANY))
        self.assertIn("", compare_groups(1, MANY, MANY).texts)


if __name__ == "__main__":
    unittest.main()
