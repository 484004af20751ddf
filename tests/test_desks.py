"""[26] Desks."""

import unittest

from patternways.desks import Desk
from patternways.errors import BadEdit, BadRules, BadText, NothingDone, TooLarge, Unequal, WayError
from patternways.readings import change, edited, pieces
from tests.brute import STRANGE, chances, few_rules
from tests.case import DOC_RULES, FAR_RULES, MORE_RULES, NO_RULES, Case
from tests.row_case import DROP, LAG, SWAP

ONE_LETTER = (1, ((("one", "a"), ("word", "aa")),))


class Stop(Exception):
    """An error that is none of the program."""


class DeskCase(Case):
    """A test case that can look at desks."""

    def same(self, desk, rules, text, journal):
        """A desk has these rules, this text and this journal."""
        self.assertEqual([desk.rules, desk.text, desk.journal()], [rules, text, journal])
        self.assertEqual(desk.pieces(), pieces(rules, text))
        self.assertEqual(desk.comes(), change(rules, text))


class Desks(DeskCase):
    def test_plain(self):
        desk = Desk(DOC_RULES, "aaabb")
        self.same(desk, DOC_RULES, "aaabb", [])
        self.assertEqual(desk.edit((1, 1, "b")), (1, [(1, 1, 2), (None, 2, 3), (1, 3, 4)], 1))
        self.same(desk, DOC_RULES, "ababb", [("edit", 1, 1, "b")])
        self.assertEqual(desk.apply(), "aabbaabbabb")
        self.same(desk, DOC_RULES, "aabbaabbabb", [("edit", 1, 1, "b"), ("apply",)])
        self.assertIsNone(desk.exchange(FAR_RULES))
        self.same(desk, FAR_RULES, "aabbaabbabb", [("edit", 1, 1, "b"), ("apply",), ("rules", FAR_RULES)])
        self.assertEqual(desk.undo(), ("rules", FAR_RULES))
        self.assertEqual(desk.undo(), ("apply",))
        self.same(desk, DOC_RULES, "ababb", [("edit", 1, 1, "b")])
        self.assertEqual(desk.undo(), ("edit", 1, 1, "b"))
        self.same(desk, DOC_RULES, "aaabb", [])
        self.refuses(NothingDone, desk.undo)

    def test_edits(self):
        desk = Desk(DOC_RULES, "aab")
        # at both ends, such as change nothing, and such as take all
        for edit in ((0, 0, "b"), (4, 0, "a"), (0, 0, ""), (5, 0, ""), (1, 2, "aa"), (0, 5, ""), (0, 0, ""),
                     (0, 0, "abab"), (0, 4, "abab")):
            before = desk.text
            place, gone, put = edit
            self.assertEqual(desk.edit(edit), edited(DOC_RULES, before, edit))
            self.assertEqual(desk.text, before[:place] + put + before[place + gone:])
        self.assertEqual(len(desk.journal()), 9)
        self.assertEqual(desk.journal()[2], ("edit", 0, 0, ""))
        for _ in range(9):
            desk.undo()
        self.same(desk, DOC_RULES, "aab", [])

    def test_what_changes_nothing_is_in_the_journal(self):
        desk = Desk(NO_RULES, "ab")
        desk.edit((1, 0, ""))
        desk.exchange(NO_RULES)
        self.assertEqual(desk.apply(), "ab")
        self.assertEqual(desk.journal(), [("edit", 1, 0, ""), ("rules", NO_RULES), ("apply",)])
        self.assertEqual([desk.undo(), desk.undo(), desk.undo()], [("apply",), ("rules", NO_RULES), ("edit", 1, 0, "")])

    def test_made_up(self):
        for chance in chances(60):
            size = chance.choice([1, 2, 3])
            rules, text = few_rules(chance, size), "ab"[:size] * 2
            desk, past, journal = Desk(rules, text), [], []
            for _ in range(25):
                dice = chance.random()
                state = (rules, text, list(journal))
                if dice < 0.5:
                    place = chance.randint(0, len(text))
                    edit = (place, chance.randint(0, len(text) - place),
                            "".join(chance.choice("abc"[:size]) for _ in range(chance.randint(0, 3))))
                    self.assertEqual(desk.edit(edit), edited(rules, text, edit))
                    text = text[:place] + edit[2] + text[place + edit[1]:]
                    journal.append(("edit", *edit))
                elif dice < 0.6 and len(text) < 30:
                    text = change(rules, text)
                    self.assertEqual(desk.apply(), text)
                    journal.append(("apply",))
                elif dice < 0.7:
                    rules = few_rules(chance, size)
                    desk.exchange(rules)
                    journal.append(("rules", rules))
                elif past:
                    self.assertEqual(desk.undo(), journal[-1])
                    rules, text, journal = past.pop()
                    state = None
                if state is not None and len(journal) > len(state[2]):
                    past.append(state)
                self.same(desk, rules, text, journal)

    def test_refusals_when_made(self):
        self.refuses_strange(BadRules, lambda rules: Desk(rules, None))
        self.assertEqual(self.refuses(BadRules, Desk, (2, (SWAP[1][0], ("one", "a"))), None).index, 1)
        self.refuses(TooLarge, Desk, MORE_RULES, None)
        self.refuses_strange(BadText, lambda text: Desk(SWAP, text))
        self.refuses(BadText, Desk, SWAP, "abc")
        self.refuses(BadText, Desk, SWAP, ["a"])

    def test_refusals(self):
        desk = Desk(DOC_RULES, "aab")
        desk.edit((3, 0, "b"))
        no_edits = STRANGE + [[0, 0, ""], (0, 0), (0, 0, "", ""), (-1, 0, ""), (5, 0, ""), (0, 5, ""), (4, 1, ""),
                              (0, -1, "a"), (0, 0, "c"), (0, 0, None), (0, 0, ["a"]), (False, 0, ""), (0, True, ""),
                              ("0", 0, ""), (1, 4, "a"), (None, 0, "a")]
        for edit in no_edits:
            with self.subTest(edit=repr(edit)):
                self.refuses(BadEdit, desk.edit, edit)
        self.refuses_strange(BadRules, desk.exchange)
        self.refuses(BadRules, desk.exchange, (1, (SWAP[1][0], ("one", "a"))))
        self.refuses(TooLarge, desk.exchange, MORE_RULES)
        self.refuses(TooLarge, Desk(ONE_LETTER, "").exchange, MORE_RULES)
        self.refuses(Unequal, desk.exchange, ONE_LETTER)
        self.refuses(Unequal, desk.exchange, (3, SWAP[1]))
        self.same(desk, DOC_RULES, "aabb", [("edit", 3, 0, "b")])

    def test_answers_are_new(self):
        desk = Desk(DOC_RULES, "aab")
        desk.apply()
        desk.journal().clear()
        desk.pieces().clear()
        desk.edit((0, 0, "a"))[1].clear()
        self.assertEqual(desk.journal(), [("apply",), ("edit", 0, 0, "a")])
        self.assertEqual(desk.pieces(), pieces(DOC_RULES, desk.text))


class Branches(DeskCase):
    def test_apart(self):
        desk = Desk(DOC_RULES, "aab")
        desk.edit((0, 0, "b"))
        branch = desk.branch()
        self.assertIsInstance(branch, Desk)
        self.same(branch, DOC_RULES, "baab", [("edit", 0, 0, "b")])
        branch.apply()
        desk.exchange(SWAP)
        self.same(desk, SWAP, "baab", [("edit", 0, 0, "b"), ("rules", SWAP)])
        self.same(branch, DOC_RULES, "abb", [("edit", 0, 0, "b"), ("apply",)])
        self.assertEqual([branch.undo(), branch.undo()], [("apply",), ("edit", 0, 0, "b")])
        self.same(branch, DOC_RULES, "aab", [])
        self.refuses(NothingDone, branch.undo)
        self.same(desk, SWAP, "baab", [("edit", 0, 0, "b"), ("rules", SWAP)])
        self.assertEqual([desk.undo(), desk.undo()], [("rules", SWAP), ("edit", 0, 0, "b")])

    def test_of_a_branch(self):
        desk = Desk(SWAP, "ab")
        branch = desk.branch().branch()
        branch.apply()
        self.same(desk, SWAP, "ab", [])
        self.same(branch, SWAP, "ba", [("apply",)])

    def test_in_an_attempt(self):
        desk, kept = Desk(SWAP, "ab"), []
        desk.edit((2, 0, "b"))

        def work(same):
            same.apply()
            kept.append(same.branch())
            kept[0].apply()
            raise Stop()

        self.refuses(Stop, desk.attempt, work)
        self.same(desk, SWAP, "abb", [("edit", 2, 0, "b")])
        # it is in no attempt: all can be undone there
        self.same(kept[0], SWAP, "abb", [("edit", 2, 0, "b"), ("apply",), ("apply",)])
        self.assertEqual([kept[0].undo(), kept[0].undo(), kept[0].undo()], [("apply",), ("apply",),
                                                                           ("edit", 2, 0, "b")])
        self.same(kept[0], SWAP, "ab", [])

    def test_undone_in_the_attempt_itself(self):
        desk = Desk(SWAP, "ab")
        desk.apply()

        def work(same):
            branch = same.branch()
            self.assertEqual(branch.undo(), ("apply",))
            self.refuses(NothingDone, same.undo)
            return branch

        self.same(desk.attempt(work), SWAP, "ab", [])
        self.same(desk, SWAP, "ba", [("apply",)])


class Attempts(DeskCase):
    def test_ends_well(self):
        desk = Desk(DROP, "aab")
        desk.edit((0, 0, "b"))

        def work(same):
            self.assertIs(same, desk)
            same.apply()
            same.edit((0, 1, ""))
            same.exchange(LAG)
            return "done"

        self.assertEqual(desk.attempt(work), "done")
        journal = [("edit", 0, 0, "b"), ("apply",), ("edit", 0, 1, ""), ("rules", LAG)]
        self.same(desk, LAG, "b", journal)
        # behind the attempt, all of it can be undone, and what was done ahead of it
        self.assertEqual([desk.undo() for _ in range(4)], journal[::-1])
        self.same(desk, DROP, "aab", [])
        self.assertIsNone(desk.attempt(lambda same: None))

    def test_left_by_errors(self):
        for error in (Stop, WayError, NothingDone, ValueError, KeyError, KeyboardInterrupt):
            desk = Desk(DROP, "aab")
            desk.apply()

            def work(same):
                same.exchange(SWAP)
                same.edit((1, 0, "ab"))
                same.apply()
                same.undo()
                raise error("it is over")

            with self.assertRaises(error) as held:
                desk.attempt(work)
            self.assertEqual(held.exception.args, ("it is over",))
            self.same(desk, DROP, "b", [("apply",)])
            self.assertEqual(desk.undo(), ("apply",))
            self.refuses(NothingDone, desk.undo)

    def test_left_by_a_refusal(self):
        desk = Desk(SWAP, "ab")
        self.refuses(BadEdit, desk.attempt, lambda same: [same.apply(), same.edit((9, 0, ""))])
        self.same(desk, SWAP, "ab", [])
        self.refuses(TypeError, desk.attempt, lambda: None)
        self.same(desk, SWAP, "ab", [])
        # a refusal that does not leave it takes nothing back
        desk.attempt(lambda same: [same.apply(), self.refuses(BadEdit, same.edit, (9, 0, ""))])
        self.same(desk, SWAP, "ba", [("apply",)])

    def test_undoing(self):
        desk = Desk(SWAP, "ab")
        desk.edit((0, 0, "b"))

        def work(same):
            self.refuses(NothingDone, same.undo)
            same.apply()
            self.assertEqual(same.undo(), ("apply",))
            self.refuses(NothingDone, same.undo)
            self.assertEqual(same.journal(), [("edit", 0, 0, "b")])
            same.apply()

        desk.attempt(work)
        self.same(desk, SWAP, "aba", [("edit", 0, 0, "b"), ("apply",)])
        # what is done ahead of it cannot be undone in it: the attempt is left by this error
        self.refuses(NothingDone, desk.attempt, lambda same: [same.undo(), same.undo()])
        self.same(desk, SWAP, "aba", [("edit", 0, 0, "b"), ("apply",)])

    def test_within_one_another(self):
        desk = Desk(SWAP, "a")
        seen = []

        def inner(same):
            same.edit((0, 0, "bb"))
            self.assertEqual(same.undo(), ("edit", 0, 0, "bb"))
            self.refuses(NothingDone, same.undo)
            same.apply()
            raise Stop()

        def well(same):
            same.edit((1, 0, "ab"))
            return 5

        def outer(same):
            same.apply()
            self.refuses(Stop, same.attempt, inner)
            seen.append((same.text, same.journal()))
            self.assertEqual(same.attempt(well), 5)
            seen.append((same.text, same.journal()))
            # what the inner one has done was done in the outer one, too
            self.assertEqual(same.undo(), ("edit", 1, 0, "ab"))
            self.assertEqual(same.undo(), ("apply",))
            self.refuses(NothingDone, same.undo)
            same.attempt(well)

        desk.edit((1, 0, "b"))
        desk.attempt(outer)
        first = ("edit", 1, 0, "b")
        self.assertEqual(seen, [("ba", [first, ("apply",)]), ("baba", [first, ("apply",), ("edit", 1, 0, "ab")])])
        self.same(desk, SWAP, "aabb", [first, ("edit", 1, 0, "ab")])

        def failing(same):
            same.attempt(well)
            same.attempt(well)
            raise Stop()

        self.refuses(Stop, desk.attempt, failing)
        self.same(desk, SWAP, "aabb", [first, ("edit", 1, 0, "ab")])
        self.refuses(Stop, desk.attempt, lambda same: same.attempt(failing))
        self.same(desk, SWAP, "aabb", [first, ("edit", 1, 0, "ab")])
        self.assertEqual([desk.undo(), desk.undo()], [("edit", 1, 0, "ab"), first])

    def test_of_another_desk(self):
        desk, other = Desk(SWAP, "ab"), Desk(SWAP, "b")

        def work(same):
            same.apply()
            other.apply()
            raise Stop()

        self.refuses(Stop, desk.attempt, work)
        self.same(desk, SWAP, "ab", [])
        self.same(other, SWAP, "a", [("apply",)])


if __name__ == "__main__":
    unittest.main()
