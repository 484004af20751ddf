"""[1] and the whole program: what its parts say agrees, letters are exchanged, and answers are spoiled and made anew."""

import copy
import inspect
import unittest
from itertools import permutations

from patternways import (agreeing, alike, coming, cuts, joins, learning, lines, looks, products, readings, rows, rules,
                         settling, spans, tables, telling, trying, ways, words)
from patternways.desks import Desk
from patternways.errors import (BadEdit, BadIndex, BadKind, BadLines, BadNumber, BadPattern, BadPieces, BadPlace, BadRow,
                                BadRules, BadSize, BadTable, BadText, NoWord, TooLarge, Unequal, WayError)
from patternways.ropes import Rope
from tests.brute import STRANGE, chances, few_row, few_rules, good_rules, good_table, texts
from tests.brute_ways import good_grouped
from tests.case import ALL, DOC_RULES, EVEN, FAR_RULES, NO_RULES, NOTHING, TWOS, Case
from tests.row_case import DROP, LAG, MARK, PAIRS, SWAP

A, B, AB = ("one", "a"), ("one", "b"), ("one", "ab")
MANY = ("row", ("group", ("again", A, 0, None, "many")), ("group", ("again", A, 0, None, "many")))
FEW = ("row", ("group", ("again", A, 0, None, "few")), ("group", ("again", A, 0, None, "many")))
DEEP = ("again", ("again", A, 0, None, "many"), 0, None, "few")
LOOPS = ("row", ("again", A, 0, None, "many"), ("again", A, 0, None, "many"), ("again", A, 0, None, "many"))
RULES = (2, ((A, ("word", "")), (("row", A, A), ("word", "b"))))
AB_TABLE = tables.table_of(2, ("row", A, B))

# calls of each function; those that return evidence first, with classes of all kinds among what is returned
JUDGED = [
    (tables.judge_alike, (EVEN, EVEN)), (tables.judge_alike, (EVEN, ALL)), (tables.judge_within, (EVEN, ALL)),
    (tables.judge_within, (ALL, EVEN)), (looks.judge_look, (DOC_RULES,)), (looks.judge_look, (FAR_RULES,)),
    (looks.judge_look, (NO_RULES,)), (cuts.judge_cut, (DOC_RULES,)), (cuts.judge_cut, (TWOS,)),
    (agreeing.judge_agreement, (DOC_RULES,)), (agreeing.judge_agreement, (TWOS,)), (joins.judge_free, (RULES, None, 0)),
    (joins.judge_free, (RULES, 0, 0)), (learning.judge_enough, (EVEN, 2)), (alike.compare, ((SWAP, SWAP), (NO_RULES,))),
    (alike.compare, ((SWAP,), (NO_RULES,))), (settling.settle, (DROP,)), (settling.settle, (SWAP,)),
    (settling.settle, (NO_RULES,)), (settling.exchange, (SWAP, SWAP)), (settling.exchange, (SWAP, DROP)),
    (telling.telling, ((SWAP,),)), (telling.telling, ((MARK,),)), (telling.telling, ((DOC_RULES,),)),
    (coming.source, ((SWAP,), "ab")), (coming.source, ((DROP,), "ba")), (spans.compare_groups, (2, MANY, MANY)),
    (spans.compare_groups, (1, MANY, FEW)), (trying.growth, (1, DEEP)), (trying.growth, (2, LOOPS)),
    (products.counting, (EVEN,)), (products.counting, (AB_TABLE,))]
CALLS = JUDGED + [
    (tables.table_of, (1, DEEP)), (tables.is_word, (EVEN, "aa")), (tables.least, (EVEN,)), (tables.are_alike, (EVEN, ALL)),
    (tables.is_within, (EVEN, ALL)), (tables.both, (EVEN, ALL)), (tables.either, (EVEN, ALL)), (tables.without, (ALL, EVEN)),
    (words.count_words, (EVEN, 5)), (words.how_many, (EVEN,)), (words.longest, (AB_TABLE,)), (words.first_word, (EVEN,)),
    (words.nth_word, (EVEN, 7)), (words.word_index, (EVEN, "aab")), (rules.table_of_rules, (DOC_RULES,)),
    (readings.pieces, (DOC_RULES, "aaabb")), (readings.change, (DOC_RULES, "aaabb")), (readings.outlook, (DOC_RULES, "ab")),
    (readings.spots, (DOC_RULES,)), (readings.edited, (DOC_RULES, "aaabb", (1, 1, "b"))), (looks.look, (DOC_RULES,)),
    (looks.sure, (DOC_RULES, "aaab", 0)), (cuts.first_cut, (DOC_RULES,)), (cuts.is_cut, (DOC_RULES, "a")),
    (agreeing.agreement, (DOC_RULES,)), (joins.is_free, (RULES, None, 0)), (joins.free_pairs, (RULES,)),
    (joins.come_back, (RULES, [(1, "aa"), (0, "a")])), (learning.learn, (2, lambda text: text.count("a") % 2 == 0, 3)),
    (learning.enough, (EVEN, 2)), (rows.check_row, ((SWAP, DROP),)), (rows.changed, ((MARK, SWAP), "aab")),
    (rows.prospects, ((MARK, DROP), "ab")), (rows.rests, ((SWAP,),)), (rows.standing, ((MARK, SWAP), "aab", 2)),
    (alike.are_alike, ((SWAP,), (NO_RULES,))), (telling.sure, ((LAG,), "baa")), (coming.comes, ((DROP,),)),
    (coming.before, ((DROP,), EVEN)), (ways.stops, (1, MANY, "aa")), (ways.first_way, (1, MANY, "aa")),
    (ways.ways, (1, FEW, "aa")), (trying.tries, (1, DEEP, "aa")), (trying.widths, (1, DEEP, "aa")),
    (products.products, (EVEN,)), (products.product, (EVEN, "ab")), (lines.rules_lines, (DOC_RULES,)),
    (lines.table_lines, (EVEN,)), (lines.rules_from, (lines.rules_lines(DOC_RULES),)),
    (lines.table_from, (lines.table_lines(EVEN),))]
# the errors for each argument of each function, and of shows of what it returns
WRONG = {
    BadSize: (learning.learn,), (BadSize, BadPattern): (tables.table_of, trying.growth),
    (BadSize, BadPattern, BadText): (ways.stops, ways.first_way, ways.ways, trying.tries, trying.widths),
    (BadSize, BadPattern, BadPattern): (spans.compare_groups,), (BadTable, BadText): (
        tables.is_word, words.word_index, products.product),
    BadTable: (tables.least, words.how_many, words.longest, words.first_word, products.products, products.counting,
               lines.table_lines),
    (BadTable, BadTable): (tables.judge_alike, tables.judge_within, tables.are_alike, tables.is_within, tables.both,
                           tables.either, tables.without), (BadTable, BadIndex): (words.nth_word,),
    (BadTable, BadNumber): (words.count_words, learning.judge_enough, learning.enough), (BadRules, BadText): (
        readings.pieces, readings.change, readings.outlook, cuts.is_cut),
    BadRules: (rules.table_of_rules, readings.spots, looks.judge_look, looks.look, cuts.judge_cut, cuts.first_cut,
               agreeing.judge_agreement, agreeing.agreement, joins.free_pairs, settling.settle, lines.rules_lines),
    (BadRules, BadText, BadEdit): (readings.edited,), (BadRules, BadText, BadNumber): (looks.sure,),
    (BadRules, BadKind, BadKind): (joins.judge_free, joins.is_free), (BadRules, BadPieces): (joins.come_back,),
    (BadRules, BadRules): (settling.exchange,), BadRow: (rows.check_row, rows.rests, telling.telling, coming.comes),
    (BadRow, BadText): (rows.changed, rows.prospects, telling.sure, coming.source), (BadRow, BadText, BadPlace): (
        rows.standing,), (BadRow, BadRow): (alike.compare, alike.are_alike), (BadRow, BadTable): (coming.before,),
    BadLines: (lines.rules_from, lines.table_from)}
MODULES = (agreeing, alike, coming, cuts, joins, learning, lines, looks, products, readings, rows, rules, settling, spans,
           tables, telling, trying, ways, words)


def spoil(value):
    """Change all lists, dicts and attributes within a value."""
    if isinstance(value, (list, tuple)):
        for item in value:
            spoil(item)
    if isinstance(value, list):
        value.append("spoilt")
        value.reverse()
    elif isinstance(value, dict):
        for item in value.values():
            spoil(item)
        value.clear()
        value["spoilt"] = 1
    elif hasattr(value, "shows"):
        for name in vars(value):
            spoil(getattr(value, name))
            setattr(value, name, "spoilt")


def written(value):
    """A value as a text, evidence by its attributes."""
    if hasattr(value, "shows"):
        parts = [f"{name}={written(part)}" for name, part in vars(value).items()]
        return f"{type(value).__name__}({', '.join(parts)})"
    return repr(value)


def lettered(value, order):
    """A value with other letters in all texts within it; those of a one stay ascending."""
    if isinstance(value, str):
        return "".join(order[letter] for letter in value) if set(value) <= set("abc") else value
    if isinstance(value, tuple) and value[:1] == ("one",):
        return ("one", "".join(sorted(lettered(value[1], order))))
    if isinstance(value, tuple):
        return tuple(lettered(item, order) for item in value)
    if isinstance(value, list):
        return [lettered(item, order) for item in value]
    return value


class Answers(Case):
    def test_all_functions_are_called(self):
        listed = {function for function, _ in CALLS}
        for module in MODULES:
            own = {thing for name, thing in vars(module).items() if not name.startswith("_")
                   and inspect.isfunction(thing) and thing.__module__ == module.__name__}
            self.assertLessEqual(own, listed)
        kinds = {type(function(*given)) for function, given in JUDGED}
        for module in MODULES:
            self.assertLessEqual({thing for thing in vars(module).values() if inspect.isclass(thing)
                                  and thing.__module__ == module.__name__ and hasattr(thing, "shows")}, kinds)

    def test_asked_again(self):
        for function, given in CALLS:
            with self.subTest(function=function.__name__):
                before = repr(given)
                found = function(*given)
                text = written(found)
                self.assertEqual(function(*copy.deepcopy(given)), found)
                self.assertEqual(repr(given), before)
                spoil(found)
                # also in the order of what is in it
                self.assertEqual(written(function(*given)), text)

    def test_spoiled_evidence_within_evidence(self):
        found = settling.settle(DROP)
        spoil(found)
        self.assertIs(settling.settle(DROP).shows(DROP), True)

    def test_evidence_made_anew(self):
        for function, given in JUDGED:
            found = function(*given)
            with self.subTest(kind=type(found).__name__):
                parts = copy.deepcopy(vars(found))
                made = type(found)(**parts)
                self.assertTrue(made == found)
                self.assertFalse(made != found)
                taken = type(found)(*[tuple(part) if isinstance(part, list) else part for part in parts.values()])
                self.assertTrue(taken == found)
                # the evidence of an exchange is that of two rows
                shown = (given, given[::-1]) if function == settling.exchange else given
                for evidence in (found, made, taken):
                    self.assertIs(evidence.shows(*shown), True)
                for part in parts.values():
                    if not hasattr(part, "shows"):
                        spoil(part)
                self.assertTrue(made == found)
                self.assertIs(made.shows(*shown), True)
                for name, part in vars(found).items():
                    changed = type(found)(**copy.deepcopy(vars(found)))
                    setattr(changed, name, [part])
                    self.assertTrue(changed != found)
                    self.assertFalse(changed == found)

    def test_evidence_of_other_classes(self):
        found = {}
        for function, given in JUDGED:
            evidence = function(*given)
            found[type(evidence)] = evidence
        for one in found.values():
            for other in found.values():
                self.assertEqual(one == other, one is other)
                self.assertEqual(one != other, one is not other)
        # the same attributes, but other classes
        self.assertFalse(tables.Alike([(0, 0)]) == tables.Within([(0, 0)]))
        self.assertFalse(tables.Parted("a") == tables.Outside("a"))
        self.assertFalse(alike.Differ("a") == coming.Source("a"))
        self.assertTrue(spans.Unlike("a") != coming.Source("a"))

    def test_refused_calls_change_nothing(self):
        for function, given in CALLS:
            found = function(*given)
            for place in range(len(given)):
                for bad in (None, True, (), [], "x", (((0,), (0,)), (True, True)), {}):
                    other = (*given[:place], bad, *given[place + 1:])
                    try:
                        function(*other)
                    except (WayError, TypeError):
                        pass
            self.assertEqual(function(*given), found)

    def test_wrong_arguments(self):
        listed = {}
        for kinds, functions in WRONG.items():
            for function in functions:
                listed[function] = kinds if isinstance(kinds, tuple) else (kinds,)
        self.assertEqual(set(listed), {function for function, _ in CALLS})
        for function, given in CALLS:
            called = [function]
            if (function, given) in JUDGED and function != settling.exchange:
                called.append(function(*given).shows)
            for place, kind in enumerate(listed[function]):
                for bad in STRANGE:
                    if kind == BadKind and bad is None or kind == BadPieces and bad in ([], ()):
                        continue
                    # what is behind the first wrong argument is wrong, too
                    for other in ((*given[:place], bad, *given[place + 1:]),
                                  (*given[:place], bad, *[None for _ in given[place + 1:]])):
                        for some in called:
                            with self.subTest(function=some, other=other):
                                self.refuses(kind, some, *other)
        self.refuses(BadNumber, learning.learn, 2, None, True)

    def test_wrong_together(self):
        for function in (tables.judge_alike, tables.both, tables.is_within):
            self.refuses(Unequal, function, EVEN, (((0,),), (True,)))
        self.refuses(Unequal, alike.compare, (SWAP,), (TWOS,))
        self.refuses(Unequal, settling.exchange, TWOS, SWAP)
        self.refuses(Unequal, coming.before, (SWAP,), (((0,),), (True,)))
        self.refuses(Unequal, spans.compare_groups, 2, MANY, A)
        self.refuses(NoWord, words.word_index, EVEN, "a")

    def test_booleans(self):
        true_rules = (2, ((("again", A, True, None, "many"), ("word", "")),))
        true_table = (((0, True), (0, 0)), (True, False))
        one_table = (((0, 1), (0, 0)), (1, 0))
        for function, given in CALLS:
            for place, value in enumerate(given):
                for bad in (true_rules, true_table, one_table, (true_rules,), (SWAP, (True, TWOS[1])), True, False):
                    if value == bad or callable(value):
                        continue
                    other = (*given[:place], bad, *given[place + 1:])
                    with self.subTest(function=function.__name__, other=other):
                        self.assertRaises(WayError, function, *other)


class Agreement(Case):
    def test_rules_and_rows(self):
        for chance in chances(60):
            size = chance.choice([1, 2, 3])
            some = few_rules(chance, size) if chance.random() < 0.7 else good_rules(chance, size)
            with self.subTest(rules=some):
                try:
                    found = readings.spots(some)
                    rests = rows.rests((some,))
                    teller = telling.telling((some,))
                except TooLarge:
                    continue
                table = rules.table_of_rules(some)
                parts = [tables.table_of(size, pattern) for pattern, _ in some[1]]
                look, cut = looks.look(some), cuts.first_cut(some)
                for text in texts(size, {1: 6, 2: 4, 3: 3}[size]):
                    self.compare_at(some, table, parts, found, text)
                    come = readings.change(some, text)
                    self.assertEqual(rows.changed((some,), text), come)
                    self.assertEqual(rows.changed((some, some), text), readings.change(some, come))
                    self.assertEqual(rows.prospects((some,), text), (readings.outlook(some, text), ()))
                    self.assertIn(rows.prospects((some,), text), [rows.prospects((some,), rest) for rest in rests])
                    self.assertTrue(come.startswith(telling.sure((some,), text)))
                    for number, (_, _, past) in enumerate(readings.pieces(some, text)):
                        sure = looks.sure(some, text, number)
                        if look is not None and len(text) >= past + look:
                            self.assertLessEqual(sure, past + look)
                    if cut is not None:
                        self.assertIs(cuts.is_cut(some, text + cut), True)
                    if isinstance(teller, telling.Teller):
                        self.assertEqual(teller.tell(text), come)

    def compare_at(self, some, table, parts, found, text):
        """The labels, the spots and the standings of a text agree."""
        label = [number for number, part in enumerate(parts) if text and tables.is_word(part, text)]
        stand = 0
        for letter in text:
            stand = table[0][stand]["abc".index(letter)]
        self.assertEqual(table[1][stand], label[0] if label else None)
        for place in range(len(text) + 1):
            standing, _ = rows.standing((some,), text, place)
            self.assertIn((standing[0], readings.outlook(some, text[place:])), found)

    def test_settling_and_likeness(self):
        for some in (DOC_RULES, SWAP, DROP, LAG, MARK, PAIRS, NO_RULES, FAR_RULES):
            found = settling.settle(some)
            nothing = (NO_RULES,)
            self.assertEqual(alike.are_alike((some,), nothing), getattr(found, "number", None) == 0)
            self.assertEqual(alike.are_alike((some,), (some, some)), getattr(found, "number", 3) <= 1)
            self.assertIs(alike.are_alike((some,), (some,)), True)
            if isinstance(alike.compare((some,), nothing), alike.Match):
                self.assertEqual(coming.comes((some,)), ALL)
                self.assertEqual(coming.before((some,), EVEN), EVEN)

    def test_what_comes_about(self):
        for chance in chances(40, 90):
            size = chance.choice([1, 2, 3])
            row, table = few_row(chance, size, chance.choice([1, 2])), good_table(chance, size, 3)
            with self.subTest(row=row):
                try:
                    found, ahead = coming.comes(row), coming.before(row, table)
                except TooLarge:
                    continue
                for text in texts(size, {1: 5, 2: 4, 3: 3}[size]):
                    come = rows.changed(row, text)
                    self.assertTrue(tables.is_word(found, come))
                    self.assertIs(tables.is_word(ahead, text), tables.is_word(table, come))
                    self.assertIs(isinstance(coming.source(row, text), coming.Source), tables.is_word(found, text))
                try:
                    whole = coming.before(row, found)
                except TooLarge:
                    continue
                # each text has a change that comes about
                self.assertEqual(len(whole[0]), 1)
                if len(row) == 2:
                    self.compare_last(row, found)

    def compare_last(self, row, found):
        """What comes about by all rules comes about by the last ones."""
        try:
            last = coming.comes(row[1:])
        except TooLarge:
            return
        self.assertIs(tables.is_within(found, last), True)

    def test_patterns(self):
        for chance in chances(80):
            size = chance.choice([1, 2, 3])
            pattern = good_grouped(chance, size)
            table = tables.table_of(size, pattern)
            with self.subTest(pattern=pattern):
                growth = trying.growth(size, pattern)
                for text in texts(size, {1: 6, 2: 4, 3: 3}[size]):
                    way, width = ways.first_way(size, pattern, text), trying.widths(size, pattern, text)
                    self.assertIs(way is not None, tables.is_word(table, text))
                    self.assertEqual(trying.tries(size, pattern, text), sum(width))
                    if max(width) <= 300:
                        found = ways.stops(size, pattern, text)
                        self.assertEqual(len(found), width[-1])
                        self.assertEqual((ways.ways(size, pattern, text) + [None])[0], way)
                        if isinstance(growth, trying.Climbing):
                            self.assertTrue(all(rest in growth.levels for rest, _ in found))
                twin = spans.compare_groups(size, pattern, ("any", pattern, ("none",))) if len(str(pattern)) < 120 else None
                self.assertTrue(twin is None or isinstance(twin, spans.Twin))

    def test_tables(self):
        for chance in chances(80, 300):
            size = chance.choice([1, 2, 3])
            table = good_table(chance, size, 4)
            try:
                found = products.products(table)
            except TooLarge:
                continue
            text = "".join(chance.choice("abc"[:size]) for _ in range(12))
            rope = Rope(table, text)
            for first in range(0, 13, 3):
                for past in range(first, 13, 2):
                    later = products.product(table, text[first:past])
                    self.assertIn(later, found)
                    self.assertEqual([rope.stand(first, past, begin) for begin in range(len(later))], list(later))
            self.assertIs(rope.is_word(), tables.is_word(table, text))
            self.assertEqual(lines.table_from(lines.table_lines(table)), table)
            judged = products.counting(table)
            if isinstance(judged, products.Steady):
                many = judged.number
                self.assertEqual(products.product(table, text * many), products.product(table, text * (many + 1)))
            if words.how_many(table) is None or words.how_many(table) > 3:
                word = words.nth_word(table, 3)
                self.assertEqual([words.word_index(table, word), tables.is_word(table, word)], [3, True])

    def test_pieces_that_come_back(self):
        for chance in chances(40, 700):
            some = few_rules(chance, 2)
            try:
                pairs = joins.free_pairs(some)
            except TooLarge:
                continue
            for text in texts(2, 5):
                found = [(kind, text[first:past]) for kind, first, past in readings.pieces(some, text)]
                self.assertIs(joins.come_back(some, found), True)
                mixed = found[::-1]
                if all((one[0], late[0]) in pairs for one, late in zip(mixed, mixed[1:])):
                    self.assertIs(joins.come_back(some, mixed), True)

    def test_desks(self):
        for chance in chances(40, 40):
            some = few_rules(chance, 2)
            text = "".join(chance.choice("ab") for _ in range(8))
            desk = Desk(lines.rules_from(lines.rules_lines(some)), text)
            self.assertEqual([desk.pieces(), desk.comes()], [readings.pieces(some, text), readings.change(some, text)])
            self.assertEqual(desk.edit((3, 2, "aba")), readings.edited(some, text, (3, 2, "aba")))
            text = text[:3] + "aba" + text[5:]
            self.assertEqual([desk.apply(), desk.apply()], [rows.changed((some,), text), rows.changed((some, some), text)])


class Letters(Case):
    def test_exchanged(self):
        for chance in chances(40, 20):
            size = chance.choice([2, 2, 3])
            some = few_rules(chance, size, 2)
            for letters in list(permutations("abc"[:size]))[1:3]:
                order = dict(zip("abc", letters))
                other = lettered(some, order)
                with self.subTest(some=some, other=other):
                    self.same(some, other, order, size)

    def same(self, some, other, order, size):
        """What is said of rules, and of the same with other letters, is the same with other letters."""
        for text in texts(size, 4):
            mapped = lettered(text, order)
            self.assertEqual(readings.change(other, mapped), lettered(readings.change(some, text), order))
            self.assertEqual(readings.pieces(other, mapped), readings.pieces(some, text))
        try:
            self.assertEqual(len(readings.spots(other)), len(readings.spots(some)))
        except TooLarge:
            return
        self.assertEqual(looks.look(other), looks.look(some))
        self.assertEqual(agreeing.agreement(other), agreeing.agreement(some))
        self.assertEqual(joins.free_pairs(other), joins.free_pairs(some))
        self.assertEqual(cuts.first_cut(other) is None, cuts.first_cut(some) is None)
        try:
            one, two = telling.telling((some,)), telling.telling((other,))
            come, also = coming.comes((some,)), coming.comes((other,))
            self.assertEqual(getattr(settling.settle(some), "number", None), getattr(settling.settle(other), "number", None))
        except TooLarge:
            return
        self.assertEqual([type(one), len(rows.rests((some,)))], [type(two), len(rows.rests((other,)))])
        if isinstance(one, telling.Teller):
            self.assertEqual(len(one), len(two))
        self.assertEqual(len(come[0]), len(also[0]))
        for text in texts(size, 4):
            self.assertIs(tables.is_word(also, lettered(text, order)), tables.is_word(come, text))
            self.assertEqual(telling.sure((other,), lettered(text, order)), lettered(telling.sure((some,), text), order))

    def test_patterns(self):
        for chance in chances(60, 60):
            size = chance.choice([2, 3])
            pattern = good_grouped(chance, size)
            for letters in list(permutations("abc"[:size]))[1:3]:
                order = dict(zip("abc", letters))
                other = lettered(pattern, order)
                for text in texts(size, 3):
                    mapped = lettered(text, order)
                    self.assertEqual(ways.first_way(size, other, mapped), ways.first_way(size, pattern, text))
                    self.assertEqual(trying.widths(size, other, mapped), trying.widths(size, pattern, text))
                one, two = trying.growth(size, pattern), trying.growth(size, other)
                self.assertEqual([type(one), getattr(one, "number", None)], [type(two), getattr(two, "number", None)])
                table, also = tables.table_of(size, pattern), tables.table_of(size, other)
                self.assertEqual([len(table[0]), words.how_many(table)], [len(also[0]), words.how_many(also)])
                try:
                    self.assertEqual(len(products.products(table)), len(products.products(also)))
                    self.assertEqual(type(products.counting(table)), type(products.counting(also)))
                except TooLarge:
                    self.refuses(TooLarge, products.products, table)
                    self.refuses(TooLarge, products.products, also)


if __name__ == "__main__":
    unittest.main()
