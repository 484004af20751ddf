"""The interface: each name stands in the file under which it is listed, with the arguments that are listed."""

import importlib
import inspect
import unittest

from patternways import errors
from patternways.errors import BadLines, BadPieces, BadRules, WayError

ERRORS = """BadSize BadPattern BadText BadTable BadNumber BadIndex NoWord BadRules TooLarge BadEdit BadKind BadPieces BadRow
    Unequal BadPlace BadStand TooMany NothingDone BadLines""".split()

FUNCTIONS = """
tables: table_of(size, pattern) is_word(table, text) least(table) judge_alike(one, other) judge_within(one, other)
tables: are_alike(one, other) is_within(one, other) both(one, other) either(one, other) without(one, other)
words: count_words(table, length) how_many(table) longest(table) first_word(table) nth_word(table, index)
words: word_index(table, text)
rules: table_of_rules(rules)
readings: pieces(rules, text) change(rules, text) outlook(rules, text) spots(rules) edited(rules, text, edit)
looks: judge_look(rules) look(rules) sure(rules, text, number)
cuts: judge_cut(rules) first_cut(rules) is_cut(rules, text)
agreeing: judge_agreement(rules) agreement(rules)
joins: judge_free(rules, kind, late) is_free(rules, kind, late) free_pairs(rules) come_back(rules, some)
learning: learn(size, ask, most) judge_enough(table, most) enough(table, most)
rows: check_row(row) changed(row, text) prospects(row, text) rests(row) standing(row, text, place)
alike: compare(one, other) are_alike(one, other)
settling: settle(rules) exchange(one, other)
telling: sure(row, text) telling(row)
coming: comes(row) before(row, table) source(row, text)
ways: stops(size, pattern, text) first_way(size, pattern, text) ways(size, pattern, text)
spans: compare_groups(size, one, other)
trying: tries(size, pattern, text) widths(size, pattern, text) growth(size, pattern)
products: products(table) product(table, text) counting(table)
lines: rules_lines(rules) table_lines(table) rules_from(text) table_from(text)
"""

# classes of evidence: their attributes, and what shows takes
EVIDENCE = """
tables Alike(pairs) shows(one, other)
tables Parted(word) shows(one, other)
tables Within(pairs) shows(one, other)
tables Outside(word) shows(one, other)
looks Look(number, text, piece, heights) shows(rules)
looks Endless(ahead, ring, rest) shows(rules)
cuts Cut(word) shows(rules)
cuts NoCut(lots) shows(rules)
agreeing Agree(number, one, other, rest, heights) shows(rules)
agreeing Astray(one, other, ring, rest) shows(rules)
joins Free(rows) shows(rules, kind, late)
joins Bound(one, other) shows(rules, kind, late)
learning Enough(number, other) shows(table, most)
alike Match(rests, ahead) shows(one, other)
alike Differ(text) shows(one, other)
settling Settled(number, match, texts) shows(rules)
settling Restless(texts) shows(rules)
telling Teller(moves, ends, rests, ahead, forks, partings) shows(row)
telling Lagging(begin, ring, one, other) shows(row)
coming Source(text) shows(row, text)
coming Barren(rests, places) shows(row, text)
spans Twin(texts) shows(size, one, other)
spans Unlike(text) shows(size, one, other)
trying Doubling(begin, ring, frames) shows(size, pattern)
trying Climbing(number, begin, ladder, levels) shows(size, pattern)
products Counting(text, stands) shows(table)
products Steady(number, texts, text) shows(table)
"""


def module(name):
    """A module of the package."""
    return importlib.import_module("patternways." + name)


def arguments(function):
    """How the arguments of a function or a method are written, without self."""
    return "(" + ", ".join(str(one) for one in inspect.signature(function).parameters.values() if one.name != "self") + ")"


class Interface(unittest.TestCase):
    def stands_there(self, name, thing, kind=inspect.isfunction):
        """Something is defined in a file itself."""
        found = vars(module(name))[thing]
        self.assertTrue(kind(found), thing)
        self.assertEqual(found.__module__, "patternways." + name)
        return found

    def test_errors(self):
        self.assertEqual(WayError.__bases__, (ValueError,))
        for name in ERRORS:
            self.assertEqual(self.stands_there("errors", name, inspect.isclass).__bases__, (WayError,))
        self.assertEqual({name for name in vars(errors) if not name.startswith("_")}, {*ERRORS, "WayError"})
        self.assertEqual([BadRules(3).index, BadPieces(None).index, BadLines(7).row], [3, None, 7])

    def test_functions(self):
        for line in FUNCTIONS.strip().split("\n"):
            name, rest = line.split(": ")
            for call in rest.replace(") ", ")\n").split("\n"):
                found = self.stands_there(name, call.split("(")[0])
                self.assertEqual(found.__name__ + arguments(found), call)

    def test_evidence(self):
        for line in EVIDENCE.strip().split("\n"):
            name, rest = line.split(" ", 1)
            made, shows = rest.split(" shows")
            found = self.stands_there(name, made.split("(")[0], inspect.isclass)
            self.assertEqual(found.__name__ + arguments(vars(found)["__init__"]), made)
            self.assertEqual(arguments(vars(found)["shows"]), shows)
            self.assertIn("__eq__", vars(found))
            names = made.split("(")[1][:-1].split(", ")
            self.assertEqual(sorted(vars(found(*["a" for _ in names]))), sorted(names))

    def test_other_classes(self):
        teller = self.stands_there("telling", "Teller", inspect.isclass)
        self.assertEqual([arguments(vars(teller)["tell"]), arguments(vars(teller)["__len__"])], ["(text)", "()"])
        rope = self.stands_there("ropes", "Rope", inspect.isclass)
        self.assertEqual(str(inspect.signature(rope)), "(table, text='')")
        for name, given in (("put", "(place, letter)"), ("take", "(place)"), ("is_word", "()"), ("branch", "()"),
                            ("stand", "(first, past, begin=0)")):
            self.assertEqual(arguments(vars(rope)[name]), given)
        self.assertTrue(isinstance(vars(rope)["kept"], property) and isinstance(vars(rope)["work"], property))
        desk = self.stands_there("desks", "Desk", inspect.isclass)
        self.assertEqual(str(inspect.signature(desk)), "(rules, text)")
        for name, given in (("journal", "()"), ("pieces", "()"), ("comes", "()"), ("edit", "(change)"), ("undo", "()"),
                            ("exchange", "(rules)"), ("apply", "()"), ("branch", "()"), ("attempt", "(work)")):
            self.assertEqual(arguments(vars(desk)[name]), given)


if __name__ == "__main__":
    unittest.main()
