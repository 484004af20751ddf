"""Rows that several test cases use; some of them come just up to a limit, or just beyond it."""

from tests.case import FORTY_RULES, MORE_RULES

A, B, AB, ABC = ("one", "a"), ("one", "b"), ("one", "ab"), ("one", "abc")
MANY_A = ("again", A, 0, None, "many")
SWAP = (2, ((A, ("word", "b")), (B, ("word", "a"))))
NOTHING = (2, ((("none",), ("word", "")),))
MARK = (2, ((("row", MANY_A, B), ("round", "b", "a")),))
DROP = (2, ((("again", A, 1, None, "few"), ("word", "")),))
LAG = (2, ((("row", ("again", A, 1, None, "many"), B), ("word", "b")),))
PAIRS = (2, ((("row", A, A), ("word", "b")),))


def word(pattern, put):
    """A rule that puts a word."""
    return (pattern, ("word", put))


def around(pattern, ahead, behind):
    """A rule that puts texts around its pieces."""
    return (pattern, ("round", ahead, behind))


# rows of one, two and three rules with just 40 prospects, and with just 41
RESTS_40 = [
    ((2, (around(("row", ("again", AB, 2, 2, "many"), ("again", AB, 2, 2, "many"), A, A), "bbb", "aaa"),
          word(("row", AB, AB, B, A), ""))),),
    ((2, (word(("row", A, ("again", AB, 1, 2, "many")), ""),)),
     (2, (around(("row", B, ("again", AB, 1, None, "many"), B), "", ""),))),
    ((2, (around(("row", A, ("again", AB, 0, None, "many"), A), "", ""),)),
     (2, (word(("row", AB, AB, B, A), "b"),)), (2, (word(("row", B, B, A, B), "baa"),)))]
RESTS_41 = [
    ((3, (word(("row", ("one", "c"), ("again", ABC, 1, 2, "many"), ABC, ("one", "c")), ""),
          word(("row", ("one", "bc"), AB, ("one", "bc"), A), "cca"), around(A, "aca", "bcb"))),),
    ((2, (word(("row", B, AB, B, B), ""),)), (2, (around(("row", A, A), "baa", ""),))),
    ((2, (word(("row", A, B), "a"),)), (2, (word(("row", B, AB, ("again", B, 0, None, "many"), A), "b"),)),
     (2, (word(("row", B, A, B, B), ""),)))]
# two rows that need just 40 rests together, and just 41; each of them needs fewer
TWO_40 = (((3, (word(("row", B, ("one", "bc")), "a"), around(("one", "c"), "", ""))),
           (3, (around(("row", ("one", "c"), ("again", ABC, 2, 2, "many"), A, A), "", "a"),))),
          ((3, (word(("row", B, ("one", "c")), "ab"),)),))
TWO_41 = (((3, (word(("row", A, ("one", "c"), ABC), ""),)),
           (3, (around(("row", A, ("again", A, 1, None, "many")), "aac", "ba"),)),
           (3, (around(("row", A, B, ABC), "c", ""),))),
          ((3, (around(("row", B, ("one", "c")), "cc", ""),)),))
# two rows that part, with just 600 triples, and with just 601
PARTED_600 = (((2, (word(("row", B, ("again", AB, 2, 3, "many"), A, B), "baa"),)),
               (2, (around(B, "", "bab"), word(("row", A, AB, A, ("again", B, 1, None, "many")), "")))),
              ((2, (word(("row", B, ("again", B, 1, 2, "many"), ("again", AB, 1, None, "many"), B), "aba"),
                    word(B, "bab"))),))
PARTED_601 = (((2, (around(B, "ba", "a"), word(("row", B, ("again", B, 0, None, "many"), A,
                                                ("again", B, 1, None, "many")), "bab"))),),
              ((2, (word(("row", AB, ("again", B, 1, None, "many"), ("again", AB, 2, 2, "many")), "bbb"),)),
               (2, (around(("row", ("again", A, 0, 3, "many"), A, ("again", B, 1, None, "many")), "", ""),))))
# a row with just 600 triples if it is compared with itself, and one with just 601
SAME_600 = ((2, (word(("row", A, A, B), "b"),)),
            (2, (around(("row", A, B), "bba", "bb"),
                 around(("row", A, AB, A, ("again", AB, 1, 3, "many")), "b", "baa"))),
            (2, (around(("again", B, 0, None, "many"), "a", "ba"), word(A, "aaa"),
                 around(("row", B, ("again", AB, 2, 2, "many")), "bbb", "b"))))
SAME_601 = ((3, (word(("row", AB, ABC, ABC, A), "bbc"), word(MANY_A, "c"),
                 around(("row", ("again", ("one", "bc"), 1, None, "many"), AB, B, AB), "a", ""))),)
# rows with just 600 pairs of two different rests, each with a standing, and with just 601
TWOS_600 = ((2, (word(("row", A, A, ("again", A, 1, None, "many"), B), ""),)), (2, (word(("row", B, AB), "ba"),)))
TWOS_601 = ((2, (around(("again", B, 1, None, "many"), "bbb", "b"), around(("row", AB, A, B), "b", "bb"),
                 around(("row", A, AB, AB, AB), "ba", "ba"))),)

# no rows of rules
BAD_ROWS = [None, True, 0, "ab", [], (), [SWAP], SWAP, (SWAP,) * 4, (SWAP, None), (SWAP, []), (SWAP, list(SWAP)),
            (SWAP, (3, SWAP[1])), (SWAP, (2, ())), ((2, (A,)),), (2, SWAP), (SWAP, SWAP, (1, (word(A, "b"),))),
            ((True, SWAP[1]),), (MORE_RULES, None), (FORTY_RULES, SWAP), {SWAP: 1}, len]
# rows of which a table is too large
LARGE_ROWS = [(MORE_RULES,), (MORE_RULES, SWAP), (SWAP, MORE_RULES), (SWAP, SWAP, MORE_RULES)]
