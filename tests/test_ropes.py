"""[25] Ropes."""

import unittest

from patternways.errors import BadPlace, BadStand, BadTable, BadText
from patternways.products import product
from patternways.ropes import Rope
from patternways.tables import is_word
from patternways.trees import Maker
from tests.brute import STRANGE, chances, good_table
from tests.case import ALL, EVEN, Case

THREE = (((1, 0), (2, 1), (0, 2)), (True, False, False))


def most_work(length):
    """How much work an edit of a text may be."""
    return 5 * max(1, length.bit_length()) + 10


class Ropes(Case):
    def same(self, rope, table, text, chance=None):
        """A rope has a text, and tells the same of it as the text does; it does no work for it."""
        work = rope.work
        self.assertEqual(rope.kept, text)
        self.assertIs(rope.is_word(), is_word(table, text))
        many = len(text)
        ends = [(0, many), (many, many), (0, 0)] if chance is None else [
            sorted([chance.randint(0, many), chance.randint(0, many)]) for _ in range(6)]
        for first, past in ends:
            for begin in range(len(table[0])):
                stand = begin
                for letter in text[first:past]:
                    stand = table[0][stand]["abc".index(letter)]
                self.assertEqual(rope.stand(first, past, begin), stand)
        self.assertEqual(rope.work, work)

    def put(self, rope, table, text, place, letter):
        """Put a letter in; return the text behind the edit."""
        work = rope.work
        self.assertIsNone(rope.put(place, letter))
        self.assertLessEqual(rope.work - work, most_work(len(text)))
        self.assertGreaterEqual(rope.work, work)
        return text[:place] + letter + text[place:]

    def take(self, rope, table, text, place):
        """Take a letter out; return the text behind the edit."""
        work = rope.work
        self.assertIsNone(rope.take(place))
        self.assertLessEqual(rope.work - work, most_work(len(text)))
        self.assertGreaterEqual(rope.work, work)
        return text[:place] + text[place + 1:]

    def test_plain(self):
        rope = Rope(EVEN, "aba")
        self.same(rope, EVEN, "aba")
        rope.put(1, "a")
        self.same(rope, EVEN, "aaba")
        rope.take(0)
        self.same(rope, EVEN, "aba")
        self.assertEqual([rope.stand(0, 1), rope.stand(0, 2), rope.stand(1, 3, 1)], [1, 1, 0])

    def test_empty(self):
        rope = Rope(EVEN)
        self.same(rope, EVEN, "")
        self.assertEqual([rope.kept, rope.work, rope.is_word(), rope.stand(0, 0, 1)], ["", 0, True, 1])
        text = self.put(rope, EVEN, "", 0, "a")
        self.same(rope, EVEN, text)
        text = self.take(rope, EVEN, text, 0)
        self.same(rope, EVEN, "")
        self.refuses(BadPlace, rope.take, 0)
        self.same(Rope(ALL, text=""), ALL, "")

    def test_work_when_made(self):
        for many in [*range(40), 1000, 4097]:
            rope = Rope(THREE, "ab" * many)
            self.assertEqual(rope.work, 2 * many)
            self.same(rope, THREE, "ab" * many)
            self.assertEqual(Rope(EVEN, "a" * many).work, many)

    def test_many_edits(self):
        for chance in chances(40):
            size = chance.choice([1, 2, 3])
            table = good_table(chance, size, 5)
            text = "".join(chance.choice("abc"[:size]) for _ in range(chance.choice([0, 1, 2, 30, 200])))
            rope = Rope(table, text)
            for step in range(250):
                side = chance.choice([0, 1, 2])
                many = len(text)
                if chance.random() < (0.7 if step % 100 < 50 else 0.3) or many == 0:
                    place = [0, many, chance.randint(0, many)][side]
                    text = self.put(rope, table, text, place, chance.choice("abc"[:size]))
                else:
                    text = self.take(rope, table, text, [0, many - 1, chance.randrange(many)][side])
                if step % 25 == 0:
                    self.same(rope, table, text, chance)
            self.same(rope, table, text, chance)

    def even(self, tree, table):
        """The sides of a tree are about as high, and what it has of them is so; returns its height and its text."""
        if tree is None:
            return 0, ""
        (left, ahead), (right, behind) = self.even(tree.left, table), self.even(tree.right, table)
        self.assertLessEqual(abs(left - right), 1)
        text = ahead + tree.letter + behind
        self.assertEqual([tree.height, tree.length, tree.product], [max(left, right) + 1, len(text), product(table, text)])
        return tree.height, text

    def test_trees(self):
        for chance in chances(20, 5):
            table = good_table(chance, 2, 3)
            maker = Maker(table[0], 0)
            tree, text = maker.of_text("ab" * chance.randint(0, 20)), ""
            _, text = self.even(tree, table)
            for _ in range(80):
                place = chance.choice([0, len(text), chance.randint(0, len(text))])
                if chance.random() < 0.5 or place == len(text):
                    tree = maker.with_letter(tree, place, "a")
                    text = text[:place] + "a" + text[place:]
                else:
                    tree = maker.without_letter(tree, place)
                    text = text[:place] + text[place + 1:]
                self.assertEqual(self.even(tree, table)[1], text)

    def test_edits_on_one_side(self):
        for place in (lambda many: 0, lambda many: many, lambda many: many // 2):
            rope, text = Rope(EVEN), ""
            for step in range(600):
                text = self.put(rope, EVEN, text, place(len(text)), "ab"[step % 3 % 2])
            self.same(rope, EVEN, text)
            while text:
                text = self.take(rope, EVEN, text, min(place(len(text)), len(text) - 1))
                if len(text) % 97 == 0:
                    self.same(rope, EVEN, text)
            self.same(rope, EVEN, "")

    def test_long(self):
        text = "aab" * 10000
        rope = Rope(THREE, text)
        self.assertEqual(rope.work, 30000)
        for place in (0, 30000, 15000):
            text = self.put(rope, THREE, text, place, "a")
        text = self.take(rope, THREE, text, 30002)
        self.assertEqual(rope.kept, text)
        self.assertIs(rope.is_word(), is_word(THREE, text))

    def test_branches(self):
        rope = Rope(THREE, "abab")
        rope.put(2, "b")
        branch = rope.branch()
        self.assertEqual([branch.kept, branch.work], [rope.kept, rope.work])
        self.assertIsInstance(branch, Rope)
        work = rope.work
        branch.put(0, "a")
        self.assertEqual([rope.kept, rope.work, branch.kept], ["abbab", work, "aabbab"])
        rope.take(4)
        self.assertEqual([rope.kept, branch.kept], ["abba", "aabbab"])
        again = branch.branch()
        again.take(0)
        self.same(rope, THREE, "abba")
        self.same(branch, THREE, "aabbab")
        self.same(again, THREE, "abbab")
        self.assertEqual(Rope(EVEN).branch().kept, "")

    def test_branches_far_apart(self):
        for chance in chances(10, 50):
            table = good_table(chance, 2, 4)
            ropes = [(Rope(table, "ab" * 10), "ab" * 10)]
            for _ in range(200):
                at = chance.randrange(len(ropes))
                rope, text = ropes[at]
                if chance.random() < 0.05:
                    ropes.append((rope.branch(), text))
                elif text and chance.random() < 0.5:
                    ropes[at] = (rope, self.take(rope, table, text, chance.randrange(len(text))))
                else:
                    place = chance.randint(0, len(text))
                    ropes[at] = (rope, self.put(rope, table, text, place, chance.choice("ab")))
            for rope, text in ropes:
                self.same(rope, table, text, chance)

    def test_refusals_when_made(self):
        self.refuses_strange(BadTable, lambda table: Rope(table, None))
        self.refuses(BadTable, Rope, (((0, True),), (True,)), "ab")
        self.refuses_strange(BadText, lambda text: Rope(EVEN, text))
        self.refuses(BadText, Rope, EVEN, "abc")
        self.refuses(BadText, Rope, EVEN, ["a"])

    def test_refusals(self):
        rope = Rope(EVEN, "aab")
        work = rope.work
        no_places = [value for value in STRANGE] + [-1, 4, True, False, "1", (1,)]
        for place in no_places:
            self.refuses(BadPlace, rope.put, place, None)
            self.refuses(BadPlace, rope.take, place)
            self.refuses(BadPlace, rope.stand, place, 3, None)
            self.refuses(BadPlace, rope.stand, 0, place, None)
        self.refuses(BadPlace, rope.take, 3)
        self.refuses(BadPlace, rope.stand, 2, 1)
        self.refuses(BadPlace, rope.stand, 2, 4)
        for letter in STRANGE + ["", "ab", "c", "A", ["a"], ("a",)]:
            self.refuses(BadText, rope.put, 3, letter)
        for begin in [value for value in STRANGE] + [2, -1, True, False]:
            self.refuses(BadStand, rope.stand, 0, 3, begin)
            self.refuses(BadStand, rope.stand, 1, 1, begin)
        self.assertEqual([rope.kept, rope.work], ["aab", work])
        self.same(rope, EVEN, "aab")


if __name__ == "__main__":
    unittest.main()
