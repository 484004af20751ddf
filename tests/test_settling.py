"""[17] At rest, and two rules one behind the other."""

import unittest

from patternways.alike import Differ, Match, compare
from patternways.errors import BadRules, TooLarge, Unequal
from patternways.settling import Restless, Settled, exchange, settle
from tests.brute import chances, few_rules, texts
from tests.brute_rows import match_plainly, row_change
from tests.case import DOC_RULES, MORE_RULES, TWOS, Case
from tests.row_case import A, AB, ABC, B, DROP, MARK, NOTHING, RESTS_41, SWAP, around, word

LONG = {1: 8, 2: 5, 3: 3}
# behind 0: what is put is what is there
SAME = (2, (around(("row", A, B), "", ""), word(B, "b")))
# behind 2: a becomes b, and then c
STEPS = (3, (word(A, "b"), word(B, "c")))
# behind none: each time there is a b more
GROWS = (2, (around(A, "", "b"),))


def rows_for(rules, number):
    """The two rows of rules for a number."""
    nothing = (rules[0], ((("none",), ("word", "")),))
    return ((rules,) * number or (nothing,)), (rules,) * (number + 1)


def parts(rules, number, text):
    """Whether a text has two changes by the rows for a number."""
    one, other = rows_for(rules, number)
    return row_change(one, text) != row_change(other, text)


class Rest(Case):
    def look_at(self, rules):
        """What settle returns is as described, plainly."""
        found = settle(rules)
        self.assertIs(found.shows(rules), True)
        self.assertEqual(found, settle(rules))
        if isinstance(found, Settled):
            one, other = rows_for(rules, found.number)
            self.assertEqual(len(found.texts), found.number)
            self.assertEqual(match_plainly(one, other, found.match.rests), found.match.ahead)
            self.assertEqual(found.match, compare(one, other))
        else:
            self.assertIsInstance(found, Restless)
            self.assertEqual(len(found.texts), 3)
        self.assertTrue(all(parts(rules, number, text) for number, text in enumerate(found.texts)))
        return found

    def test_plain(self):
        for rules, number in [(NOTHING, 0), (SAME, 0), (DROP, 1), (STEPS, 2)]:
            self.assertEqual(self.look_at(rules).number, number)
        for rules in (SWAP, GROWS, MARK, TWOS, DOC_RULES):
            self.assertIsInstance(self.look_at(rules), Restless)
        self.assertEqual(settle(SWAP), Restless(["a", "a", "a"]))

    def test_put_ab_for_a_twice(self):
        rules = (2, (word(A, "ab"),))
        self.assertEqual([row_change((rules,) * many, "a") for many in (1, 2)], ["ab", "abb"])
        self.assertIsInstance(self.look_at(rules), Restless)

    def test_made_up_rules(self):
        counts = {}
        for chance in chances(250, 900):
            size = chance.choice([1, 2, 2, 3])
            rules = few_rules(chance, size, 2)
            try:
                found = settle(rules)
            except TooLarge:
                continue
            number = found.number if isinstance(found, Settled) else None
            counts[number] = counts.get(number, 0) + 1
            with self.subTest(rules=rules):
                self.look_at(rules)
                for less in range(3):
                    seen = any(parts(rules, less, text) for text in texts(size, LONG[size]))
                    if number is not None and less >= number:
                        self.assertFalse(seen)
        self.assertEqual(sorted(counts, key=str), [0, 1, 2, None])

    def test_too_large_only_for_rows_that_are_tried(self):
        # at rest behind 1: the rows of two and of three, which are not tried, have too many triples
        rules = (2, (word(("row", A, ("again", A, 1, None, "many"), A, B), ""),))
        self.assertEqual(self.look_at(rules).number, 1)
        self.refuses(TooLarge, compare, *rows_for(rules, 2))
        counts = {True: 0, False: 0}
        for chance in chances(100, 4000):
            counts[self.is_refused(few_rules(chance, chance.choice([2, 3])))] += 1
        self.assertGreater(min(counts.values()), 5)

    def is_refused(self, rules):
        """Whether settle is refused: just if one of the rows that are tried is."""
        for number in range(3):
            try:
                found = compare(*rows_for(rules, number))
            except TooLarge:
                for function in (settle, Restless(["", "", ""]).shows, Settled(0, Match([""], {}), []).shows):
                    self.refuses(TooLarge, function, rules)
                return True
            if isinstance(found, Match):
                break
        self.look_at(rules)
        return False

class Evidence(Case):
    def test_settled_shows(self):
        for rules in (SAME, DROP, STEPS):
            found = settle(rules)
            size, number = rules[0], found.number
            others = [settle(other).match for other in (SAME, DROP, STEPS, NOTHING) if other != rules]
            short = Match(found.match.rests, {**found.match.ahead, (0,): ("", "")})
            self.shows_only_as_made(found, (rules,), {
                "number": [other for other in (0, 1, 2, 3, -1, True, False, None) if other is not number],
                "match": [*others, short, None, Differ("a"), Match([], {}), (found.match.rests, found.match.ahead)],
                "texts": [found.texts + ["a"], [""] * (number + 1), None]
                         + [found.texts[:at] + [text] + found.texts[at + 1:] for at in range(number)
                            for text in ["", None, "abcd", 0, "c" * size] if not (isinstance(text, str) and
                                                                                 set(text) <= set("abc"[:size]) and
                                                                                 parts(rules, at, text))]
                         + [found.texts[:number - 1]] * (number > 0)})

    def test_other_texts_and_matches(self):
        for rules in (DROP, STEPS):
            found = settle(rules)
            size = rules[0]
            for at in range(found.number):
                for text in texts(size, 4):
                    some = found.texts[:at] + [text] + found.texts[at + 1:]
                    self.assertIs(Settled(found.number, found.match, some).shows(rules), parts(rules, at, text))
            rests = found.match.rests[::-1]
            ahead = {(len(rests) - 1 - triple[0], *triple[1:]): pair for triple, pair in found.match.ahead.items()}
            self.assertIs(Settled(found.number, Match(rests, ahead), found.texts).shows(rules), True)

    def test_restless_shows(self):
        self.shows_only_as_made(settle(SWAP), (SWAP,), {"texts": [
            [], None, ["a"], ["a", "a"], ["a"] * 4, ["", "a", "a"], ["a", "", "a"], ["a", "a", ""], ["a", "a", "c"],
            ["a", "a", None], ["a", ["a"], "a"]]})
        self.assertIs(Restless(["ab", "b", "baab"]).shows(SWAP), True)
        # a text for each number, in their order
        rules = (3, (word(A, "b"), word(B, "c"), word(("row", ABC, ABC), "ccc")))
        self.assertIsInstance(settle(rules), Restless)
        for some in [("a", "a", "aa"), ("a", "aa", "a"), ("b", "a", "ac"), ("c", "a", "ac"), ("b", "b", "ac")]:
            expected = all(parts(rules, number, text) for number, text in enumerate(some))
            self.assertIs(Restless(list(some)).shows(rules), expected)
        self.assertIs(Restless(["a", "a", "a"]).shows(STEPS), False)

    def test_equality_and_copies(self):
        match = Match([""], {})
        self.assertTrue(Settled(0, match, []) == Settled(0, Match([""], {}), ()))
        for other in (Settled(1, match, []), Settled(0, Match([], {}), []), Settled(0, match, [""]), Restless([])):
            self.assertTrue(Settled(0, match, []) != other)
        self.assertTrue(Restless([]) == Restless(()))
        self.assertTrue(Restless([]) != Restless([""]))
        self.assertTrue(Restless([]) != Settled(0, match, []))
        given = ["a"]
        found = Settled(1, match, given)
        given.clear()
        match.rests.clear()
        self.assertEqual([found.texts, found.match.rests], [["a"], [""]])
        self.assertEqual([Settled(0, match, ("a",)).texts, Restless(("a",)).texts], [["a"], ["a"]])
        given = ["a"]
        held = Restless(given)
        given.clear()
        self.assertEqual(held.texts, ["a"])
        first = settle(DROP)
        first.match.ahead.clear()
        first.texts.clear()
        self.assertNotEqual(settle(DROP), first)

    def test_refusals(self):
        for function in (settle, Settled(0, Match([""], {}), []).shows, Restless([]).shows):
            self.refuses_strange(BadRules, function)
            self.assertEqual(self.refuses(BadRules, function, (2, ((A, ("word", "")), (A, "")))).index, 1)
            self.refuses(TooLarge, function, MORE_RULES)
            self.refuses(TooLarge, function, RESTS_41[0][0])


class Exchange(Case):
    def test_plain(self):
        self.assertEqual(exchange(SWAP, SWAP), compare((SWAP, SWAP), (SWAP, SWAP)))
        self.assertIs(exchange(DROP, SWAP).shows((DROP, SWAP), (SWAP, DROP)), True)
        self.assertIsInstance(exchange(DROP, SWAP), Differ)
        self.assertIsInstance(exchange(DROP, NOTHING), Match)
        first = exchange(DROP, NOTHING)
        self.assertIs(first.shows((DROP, NOTHING), (NOTHING, DROP)), True)

    def test_made_up_rules(self):
        counts = {Match: 0, Differ: 0}
        for chance in chances(80, 60):
            size = chance.choice([1, 2, 2])
            one, other = few_rules(chance, size, 2), few_rules(chance, size, 2)
            try:
                found = exchange(one, other)
            except TooLarge:
                self.refuses(TooLarge, compare, (one, other), (other, one))
                continue
            counts[type(found)] += 1
            self.assertEqual(found, compare((one, other), (other, one)))
            self.assertIs(found.shows((one, other), (other, one)), True)
        self.assertGreater(counts[Match], 0)

    def test_refusals(self):
        self.refuses_strange(BadRules, lambda value: exchange(value, None))
        self.refuses_strange(BadRules, lambda value: exchange(MORE_RULES, value))
        self.assertEqual(self.refuses(BadRules, exchange, (2, ((A, 0),)), 0).index, 0)
        self.assertIsNone(self.refuses(BadRules, exchange, SWAP, (2, ())).index)
        self.refuses(Unequal, exchange, MORE_RULES, TWOS)
        self.refuses(Unequal, exchange, TWOS, MORE_RULES)
        self.refuses(TooLarge, exchange, MORE_RULES, SWAP)
        self.refuses(TooLarge, exchange, SWAP, MORE_RULES)
        self.refuses(TooLarge, exchange, *RESTS_41[1])


if __name__ == "__main__":
    unittest.main()
