"""[27] Lines."""

import unittest

from patternways.checks import check_rules
from patternways.errors import BadLines, BadRules, BadTable, WayError
from patternways.lines import rules_from, rules_lines, table_from, table_lines
from tests.brute import STRANGE, chances, good_rules, good_table
from tests.case import ALL, DOC_RULES, EVEN, MORE_RULES, Case

A, AB = ("one", "a"), ("one", "ab")
WORD = ("word", "")
MANY_LINES = ("size 3\nfind any 4 none empty one abc again 0 - many one c\nput round - abc\n"
              "find group row 2 again 2 3 few one ab again 1 1 many group empty\nput word -\n")
MANY_RULES = (3, ((("any", ("none",), ("empty",), ("one", "abc"), ("again", ("one", "c"), 0, None, "many")),
                   ("round", "", "abc")),
                  (("group", ("row", ("again", AB, 2, 3, "few"), ("again", ("group", ("empty",)), 1, 1, "many"))), WORD)))
EVEN_LINES = "size 2\nstand end 1 0\nstand on 0 1\n"


def nested(many):
    """A group in a group, and so on, with so many parts."""
    return A if many == 1 else ("group", nested(many - 1))


def plain_pattern(words):
    """Take what is written as a pattern from the first words; wrong words are an error."""
    word = words.pop(0)
    if word in ("none", "empty"):
        return (word,)
    if word == "one":
        return (word, words.pop(0))
    if word in ("row", "any"):
        return (word, *[plain_pattern(words) for _ in range(int(words.pop(0)))])
    if word == "group":
        return (word, plain_pattern(words))
    if word != "again":
        raise ValueError(word)
    least, most, way = words.pop(0), words.pop(0), words.pop(0)
    return (word, plain_pattern(words), int(least), None if most == "-" else int(most), way)


def can_begin(lines):
    """Whether some text that can be read begins with these lines."""
    if len(lines) == 1:
        return lines[0] in ("size 1", "size 2", "size 3")
    items = []
    full = list(lines) + ["put word -"] * (len(lines) % 2 == 0)
    try:
        for find, put in zip(full[1::2], full[2::2]):
            words = find.split(" ")[1:]
            pattern = plain_pattern(words)
            items.append((pattern, tuple("" if word == "-" else word for word in put.split(" ")[1:])))
        rules = (int(lines[0][5:]), tuple(items))
        check_rules(rules)
    except (ValueError, IndexError):
        return False
    # what is written in just this way, and in no other
    return rules_lines(rules) == "".join(line + "\n" for line in full)


def first_bad(text):
    """The row of a BadLines for a text that ends with a line feed, None if it can be read."""
    lines = text[:-1].split("\n")
    for index in range(len(lines)):
        if not can_begin(lines[:index + 1]):
            return index
    return None if len(lines) % 2 == 1 and len(lines) > 1 else len(lines)


class RulesLines(Case):
    def bad(self, text, row, function=rules_from):
        """The text cannot be read, for this row."""
        with self.subTest(text=text):
            self.assertEqual(self.refuses(BadLines, function, text).row, row)

    def test_plain(self):
        text = "size 2\nfind row 3 one a one a one b\nput word -\nfind one b\nput round a b\n"
        self.assertEqual(rules_lines(DOC_RULES), text)
        self.assertEqual(rules_from(text), DOC_RULES)
        self.assertEqual(rules_lines(MANY_RULES), MANY_LINES)
        self.assertEqual(rules_from(MANY_LINES), MANY_RULES)

    def test_every_kind(self):
        for pattern in (("none",), ("empty",), A, ("row", A, A), ("row", A, A, A, A), ("any", A, A), ("any", A, A, A, A),
                        ("again", A, 0, None, "few"), ("again", A, 3, None, "many"), ("again", A, 0, 1, "many"),
                        ("again", A, 3, 3, "few"), ("group", A), nested(12), ("again", ("group", A), 1, 2, "few")):
            for put in (WORD, ("word", "a"), ("word", "aaa"), ("round", "", ""), ("round", "a", ""), ("round", "", "aa")):
                rules = (1, ((pattern, put),))
                self.assertEqual(rules_from(rules_lines(rules)), rules)
        self.assertEqual(rules_lines((1, ((A, ("round", "", "")),))), "size 1\nfind one a\nput round - -\n")
        # tables are not made for this: no limit of theirs is due
        self.assertEqual(rules_from(rules_lines(MORE_RULES)), MORE_RULES)

    def test_made_up(self):
        for chance in chances(300):
            rules = good_rules(chance, chance.choice([1, 2, 3]))
            text = rules_lines(rules)
            self.assertEqual(rules_from(text), rules)
            self.assertIsNone(first_bad(text))

    def test_no_lines(self):
        for text in STRANGE + ["", "size 2", "size 2\nfind one a\nput word -", b"size 2\n", ["size 2\n"], " ", "\r"]:
            for function in (rules_from, table_from):
                self.bad(text, None, function)

    def test_first_lines(self):
        for line in ("", "size", "size 0", "size 4", "size 02", "size  2", " size 2", "size 2 ", "size two", "Size 2",
                     "size 2\r", "size 2 2", "find one a", "put word -", "size -1", "size +2", "size\t2", "size \u0662"):
            self.bad(line + "\n", 0)
            self.bad(line + "\nfind one a\nput word -\n", 0)
            self.bad(line + "\n" + EVEN_LINES[7:], 0, table_from)

    def test_texts_that_end_too_soon(self):
        lines = MANY_LINES.split("\n")
        for many in range(1, 5):
            text = "\n".join(lines[:many]) + "\n"
            if many == 3:
                self.assertEqual(len(rules_from(text)[1]), 1)
            else:
                self.bad(text, many)

    def test_find_lines(self):
        for line in ("", "find", "find ", "find one", "find one ", "find one ba", "find one d", "find one aa", "find  one a",
                     "find one a ", " find one a", "find one a a", "find on a", "find row 2 one a", "find row 1 one a",
                     "find row 5 one a one a one a one a one a", "find row 02 one a one a", "find row 2 one a one a one a",
                     "find any - one a one b", "find again 0 one a", "find again 0 0 many one a", "find group",
                     "find again 4 - many one a", "find again 2 1 few one a", "find again 00 - few one a",
                     "find again 0 - all one a", "find again - - many one a", "find again 0 4 many one a", "find none none",
                     "find again 0 01 many one a", "find again 0 - many", "find Group one a", "find turn one a",
                     "find row 2 one a\tone b", "find one c", "find empty -", "find again 0 -1 many one a",
                     "find again 0 \u0663 many one a", "find again 0 - many one a one a", "find again +0 - many one a",
                     "put word -", "size 2", "find one a\r", "find group " * 2000 + "one a",
                     "find" + " group" * 12 + " one a", "find" + " row 4" * 3000, "find row " + "9" * 5000,
                     "find again 3 3 many row 3 one a one a one a"):
            self.bad("size 2\n" + line + "\n", 1)
            self.bad("size 2\n" + line + "\nput word -\n", 1)
            self.bad("size 2\nfind one a\nput word -\n" + line + "\nput word -\n", 3)

    def test_put_lines(self):
        for line in ("", "put", "put ", "put word", "put word ", "put word  -", "put word a b", "put word abab", "put word c",
                     "put round a", "put round a b a", "put round - c", "put round -  -", "put word - ", "put words a",
                     "puts word a", "put word --", "put round aaaa -", "put round - bbbb", "put word A", "find one a",
                     "put word -\r", " put word -", "put  word -", "size 2"):
            self.bad("size 2\nfind one a\n" + line + "\n", 2)
            self.bad("size 2\nfind one a\n" + line + "\nfind one a\n", 2)

    def test_lines_put_in_twice_and_left_out(self):
        lines = rules_lines(DOC_RULES).split("\n")[:-1]
        for index in range(len(lines)):
            twice = lines[:index + 1] + lines[index:]
            left = lines[:index] + lines[index + 1:]
            for some in (twice, left, lines[:index] + [""] + lines[index:], lines + [lines[index]]):
                text = "\n".join(some) + "\n"
                self.bad(text, first_bad(text))
        self.bad("\n", 0)
        self.bad(rules_lines(DOC_RULES) + "\n", 5)

    def test_just_within_limits(self):
        eight = ("again", ("row", A, A), 3, None, "many")
        self.assertEqual(rules_from("size 1\nfind again 3 - many row 2 one a one a\nput word aaa\n"),
                         (1, ((eight, ("word", "aaa")),)))
        self.bad("size 1\nfind again 3 3 many row 3 one a one a one a\n", 1)
        # rules of weight 10, and of 11
        heavy = "size 1\nfind again 3 - many row 2 one a one a\nput word aaa\n"
        self.assertEqual(len(rules_from(heavy + "find row 2 one a one a\nput round aaa aaa\n")[1]), 2)
        self.bad(heavy + "find row 3 one a one a one a\nput word -\n", 3)
        self.bad(heavy + "find row 2 one a one a\nput round aaa aaaa\n", 4)
        self.bad(heavy + "find row 2 one a one a\nput word -\nfind one a\n", 5)
        self.assertEqual(len(rules_from(heavy + "find none\nput word a\n" * 3)[1]), 4)
        self.bad(heavy + "find none\nput word a\n" * 3 + "find none\n", 9)
        self.bad(heavy + "find none\nput word a\n" * 3 + "find none\nput word a\n", 9)
        # 12 parts, and 13
        self.assertEqual(rules_from("size 1\nfind" + " group" * 11 + " one a\nput word -\n"), (1, ((nested(12), WORD),)))
        self.bad("size 1\nfind" + " group" * 12 + " one a\nput word -\n", 1)
        wide = "find row 4 none none none row 4 none none none row 3 none none one a\nput word -\n"
        self.assertEqual(len(rules_from("size 1\n" + wide)[1]), 1)
        self.bad("size 1\n" + wide.replace("row 3 none", "row 4 none none"), 1)

    def test_altered(self):
        signs = " -0123abcdnz\n"
        for chance in chances(250):
            text = rules_lines(good_rules(chance, chance.choice([1, 2, 3])))
            for _ in range(12):
                place = chance.randrange(len(text) - 1)
                dice = chance.random()
                put = "" if dice < 0.3 else chance.choice(signs)
                other = text[:place] + put + text[place + (0 if 0.3 <= dice < 0.6 else 1):]
                row = first_bad(other)
                if row is None:
                    self.assertEqual(rules_lines(rules_from(other)), other)
                else:
                    self.bad(other, row)

    def test_refusals(self):
        self.refuses_strange(BadRules, rules_lines)
        self.assertEqual(self.refuses(BadRules, rules_lines, (1, ((A, WORD), (AB, WORD)))).index, 1)
        self.assertIsNone(self.refuses(BadRules, rules_lines, (1, ())).index)
        self.assertIsNone(self.refuses(BadRules, rules_lines, (True, ((A, WORD),))).index)
        self.assertTrue(issubclass(BadLines, WayError))


class TableLines(Case):
    def bad(self, text, row):
        """The text cannot be read, for this row."""
        with self.subTest(text=text):
            self.assertEqual(self.refuses(BadLines, table_from, text).row, row)

    def test_plain(self):
        self.assertEqual(table_lines(EVEN), EVEN_LINES)
        self.assertEqual(table_from(EVEN_LINES), EVEN)
        self.assertEqual(table_lines(ALL), "size 2\nstand end 0 0\n")
        self.assertEqual(table_from("size 1\nstand on 0\n"), (((0,),), (False,)))
        self.assertEqual(table_from("size 3\nstand end 0 0 0\n"), (((0, 0, 0),), (True,)))

    def test_made_up(self):
        for chance in chances(200):
            table = good_table(chance, chance.choice([1, 2, 3]), chance.choice([1, 5, 40]))
            text = table_lines(table)
            self.assertEqual(table_from(text), table)
            self.assertEqual(len(text.split("\n")), len(table[0]) + 2)

    def test_lines_that_are_not_as_described(self):
        for line in ("", "stand", "stand end", "stand end 1", "stand end 1 0 0", "stand end  1 0", "stand end 1 0 ",
                     " stand end 1 0", "stand on 1 40", "stand on 01 0", "stand on -1 0", "stand on 1 00", "stand yes 1 0",
                     "stand End 1 0", "stands on 1 0", "stand on a b", "stand on 1,0", "stand on 1 0\r", "size 2",
                     "stand on 1 \u0660", "stand on 1 100", "stand on +1 0", "find one a", "stand on - 0", "end on 1 0"):
            self.bad("size 2\n" + line + "\n", 1)
            self.bad("size 2\n" + line + "\nstand on 0 1\n", 1)
            self.bad("size 2\nstand end 1 0\n" + line + "\n", 2)
            # the first one counts
            self.bad("size 2\nstand end 1 0\n" + line + "\nstand\n", 2)

    def test_no_tables(self):
        self.bad("size 2\n", 1)
        self.bad("size 2\nstand end 1 0\n", 2)
        self.bad("size 2\nstand end 0 0\nstand on 0 1\n", 3)
        self.bad("size 1\nstand on 39\n", 2)
        self.bad("\n", 0)
        forty = "".join(f"stand on {(stand + 1) % 40}\n" for stand in range(40))
        self.assertEqual(len(table_from("size 1\n" + forty)[0]), 40)
        self.bad("size 1\n" + forty + "stand on 0\n", 42)
        self.bad("size 1\n" + forty.replace("stand on 0\n", "stand on 40\n"), 40)

    def test_lines_put_in_twice_and_left_out(self):
        self.bad("size 2\n" + EVEN_LINES, 1)
        self.bad(EVEN_LINES[7:], 0)
        self.bad("size 2\nstand on 0 1\n", 2)
        self.bad(EVEN_LINES + "stand on 0 1\n", 4)
        self.bad(EVEN_LINES + "\n", 3)
        self.bad(EVEN_LINES[:-1], None)
        self.bad(EVEN_LINES.replace("\n", "\r\n"), 0)

    def test_refusals(self):
        self.refuses_strange(BadTable, table_lines)
        for bad in ((((0, True),), (True,)), (((0, 1),), (True,)), (((0,), (0,)), (True, True)), (((0,),), (1,)),
                    [((0,),), (True,)], (tuple(((stand + 1) % 41,) for stand in range(41)), (True,) * 41)):
            self.refuses(BadTable, table_lines, bad)


if __name__ == "__main__":
    unittest.main()
