"""The shelf of games: [13.1], [13.2] and narrowplay/shelf.py."""

import functools
import itertools
import random
import unittest

from narrowplay import shelf
from narrowplay.bounds import cells, choices, clock
from narrowplay.codebounds import code_cells, code_choices, code_clock
from narrowplay.compiler import compiled
from narrowplay.errors import BadNumber, BadTies, BadWord
from narrowplay.faults import is_program
from narrowplay.narrow import narrow
from narrowplay.plans import many_plays, winner
from narrowplay.plays import run
from narrowplay.shelf import domino_program, domino_winner, takeaway_program, takeaway_winner, ties_program, ties_winner
from narrowplay.texts import written
from tests.helpers import ANY_VALUES, check_gives, check_parameters, check_raises, run_examples
from tests.play_reference import tree, value
from tests.test_plays import NO_WORDS

EXAMPLES = r"""
>>> from narrowplay.shelf import domino_winner, takeaway_winner, ties_winner
>>> [takeaway_winner(2, 3), takeaway_winner(2, 4), takeaway_winner(1, 0), domino_winner(4), domino_winner(5), domino_winner(1)]
['two', 'one', 'two', 'one', 'two', 'two']
>>> [ties_winner((("a", "b"), ("b", "c")), "abc"), ties_winner((("a", "b"), ("a", "c"), ("b", "c")), "abc"), ties_winner((), "")]
['two', 'one', 'two']
"""

# The values of positions by looking at all moves, for the player who is to move.


@functools.lru_cache(None)
def taker_wins(k, things):
    return any(not taker_wins(k, things - many) for many in range(1, k + 1) if many <= things)


@functools.lru_cache(None)
def walker_wins(ties, place, left):
    return any(not walker_wins(ties, letter, left - {letter}) for letter in left if (place, letter) in ties)


@functools.lru_cache(None)
def coverer_wins(row):
    """Return whether the player who is to move on a row, a string of cells that are free (.) or covered (#), wins."""
    return any(not coverer_wins(row[:at] + "##" + row[at + 2:]) for at in range(len(row)) if row[at:at + 2] == "..")


def player(wins):
    return "one" if wins else "two"


def takeaway_value(k, things):
    return player(taker_wins(k, things))


def ties_value(ties, word):
    return player(word != "" and walker_wins(ties, word[0], frozenset(word) - {word[0]}))


def domino_value(many):
    return player(coverer_wins("." * many))


def ties_of(text):
    return tuple(sorted((pair[0], pair[1]) for pair in text.split()))


def drawn_ties(drawn, letters, most):
    pairs = list(itertools.product(letters, repeat=2))
    return tuple(sorted(drawn.sample(pairs, drawn.randint(0, min(most, len(pairs))))))


RING = ties_of("ab bc cd da")
# All twelve ties between four letters.
WHOLE = tuple(pair for pair in itertools.product("abcd", repeat=2) if pair[0] != pair[1])
# Ties of which some lead to letters that are not in the words: they make the trees of plays greatest.
WIDE = [
    ties_of("ab ac ad bc bd cb cd db dc bx cy dz"), ties_of("ab ac ad bc bd cd db dc bx cy dz dw"), ties_of("ab ac ad bc cd db bd ax ay az bx bw"),
    ties_of("ab bc cd ae af ag ah bi bj bk cl cm"), ties_of("aa ab ac ad ba bb bc bd ca cb cc cd")]
TIES = [(), RING, WHOLE, ties_of("aa"), ties_of("ab"), ties_of("ab ba"), ties_of("ab ac bc"), ties_of("ab bc ca"), ties_of("ab ac ad bd cd"),
        ties_of("zy yx xz zx"), ties_of("az bz cz dz za"), ties_of("na nb nf tn tx yn")] + WIDE


def words_of(letters, most):
    return ["".join(word) for many in range(most + 1) for word in itertools.product(letters, repeat=many)]


class Winners(unittest.TestCase):

    def test_takeaway(self):
        for k, wanted in ((1, "2121212121212121"), (2, "2112112112112112"), (3, "2111211121112111"), (4, "2111121111211112")):
            for things, mark in enumerate(wanted):
                told = {"1": "one", "2": "two"}[mark]
                self.assertEqual(takeaway_value(k, things), told)
                check_gives(self, told, takeaway_winner, k, things)
        for k in range(1, 20):
            for things in range(40):
                self.assertEqual(takeaway_winner(k, things), takeaway_value(k, things))

    def test_dominoes(self):
        for many, mark in enumerate("221112111211111"):
            told = {"1": "one", "2": "two"}[mark]
            self.assertEqual(domino_value(many), told, many)
            check_gives(self, told, domino_winner, many)
        for many in range(15, 20):
            self.assertEqual(domino_winner(many), domino_value(many))

    def test_ties_by_hand(self):
        for ties, word, wanted in (
                (RING, "", "two"), (RING, "a", "two"), (RING, "ab", "one"), (RING, "ac", "two"), (RING, "abc", "two"), (RING, "abcd", "one"),
                (RING, "abcdefg", "one"), (RING, "ba", "two"), (RING, "da", "one"), (RING, "dabbaad", "two"), (RING, "zabcd", "two"),
                ((), "abc", "two"), (ties_of("aa"), "a", "two"), (ties_of("aa"), "aaa", "two"), (ties_of("ab"), "ba", "two"),
                (ties_of("ab"), "ab", "one"), (ties_of("ab"), "aabb", "one"), (ties_of("ab ba"), "ab", "one"), (ties_of("ab ba"), "ba", "one"),
                (ties_of("ab ac bc"), "abc", "one"), (ties_of("ab bc ca"), "abc", "two"), (ties_of("ab bc ca"), "cba", "two"),
                (ties_of("ab ac ad bd cd"), "adcb", "one"), (WHOLE, "abcd", "one"), (WHOLE, "abc", "two"), (WHOLE, "ab", "one"), (ties_of("aq ab bq"), "ab", "one"),
                (ties_of("aq ar"), "abc", "two")):
            self.assertEqual(ties_value(ties, word), wanted, (ties, word))
            check_gives(self, wanted, ties_winner, ties, word)

    def test_ties(self):
        seen = {"one": 0, "two": 0}
        drawn = random.Random(1)
        for _ in range(400):
            letters = drawn.choice(["abcd", "abcde", "abcdefg", "nyftlrx"])
            ties = drawn_ties(drawn, letters, 12)
            for _ in range(5):
                word = "".join(drawn.choice(letters + "q") for _ in range(drawn.randint(0, 7)))
                seen[ties_value(ties, word)] += 1
                self.assertEqual(ties_winner(ties, word), ties_value(ties, word), (ties, word))
        self.assertGreater(min(seen.values()), 300, seen)
        for word in ("abcdefg", "gfedcba", "abcdabc"):
            for _ in range(20):
                ties = drawn_ties(drawn, "abcdefg", 12)
                check_gives(self, ties_value(ties, word), ties_winner, ties, word)

    def test_examples(self):
        run_examples(self, EXAMPLES)


def program_tree(program, word):
    return tree(lambda picks: run(program, word, picks))


class Programs(unittest.TestCase):

    def test_takeaway(self):
        for k in range(1, 5):
            program = takeaway_program(k)
            check_gives(self, program, takeaway_program, k)
            for word in ["abcdefghijklmn"[:many] for many in range(7)] + ["aaaaaa", "zzz", "ny", "dcba"]:
                check_gives(self, takeaway_value(k, len(word)), winner, program, word)
                if len(word) <= 4:
                    self.assertEqual(narrow(compiled(program), word)[0], takeaway_value(k, len(word)))

    def test_dominoes(self):
        program = domino_program()
        check_gives(self, program, domino_program)
        for word in ["q" * many for many in range(7)] + ["abcdef", "aabb", "mmmmmm", "xaxaxa", "n"]:
            check_gives(self, domino_value(len(word)), winner, program, word)
            if len(word) <= 4:
                self.assertEqual(narrow(compiled(program), word)[0], domino_value(len(word)))

    def test_ties(self):
        seen = {"one": 0, "two": 0}
        drawn = random.Random(2)
        for ties in TIES + [drawn_ties(drawn, drawn.choice(["abc", "abcd", "abcde", "lmnopqrstuvw"]), 12) for _ in range(60)]:
            program = ties_program(ties)
            self.assertTrue(is_program(program))
            letters = sorted({letter for pair in ties for letter in pair} | {"q"})
            for _ in range(8):
                few = drawn.sample(letters, min(4, len(letters)))
                word = "".join(drawn.choice(few) for _ in range(drawn.randint(0, 6)))
                wanted = ties_value(ties, word)
                seen[wanted] += 1
                self.assertEqual(winner(program, word), wanted, (ties, word))
                if len(word) <= 4:
                    self.assertEqual(narrow(compiled(program), word)[0], wanted)
        self.assertGreater(min(seen.values()), 100, seen)
        check_gives(self, ties_program(RING), ties_program, RING)

    def test_ties_on_all_short_words(self):
        for ties, letters in ((RING, "abcd"), (ties_of("ab ba bb ac"), "abcx"), (ties_of("zy yx xz zx"), "xyz")):
            program = ties_program(ties)
            for word in words_of(letters, 4):
                self.assertEqual(winner(program, word), ties_value(ties, word), (ties, word))

    def test_words_with_other_letters(self):
        for ties in TIES:
            program = ties_program(ties)
            for word in ("q", "qa", "qabc", "aq", "aqbq", "abqqqq", "abcq", "dcqbad", "zzzzyx", "ntny"):
                if len(set(word)) <= 4:
                    self.assertEqual(winner(program, word), ties_value(ties, word), (ties, word))

    def limits(self, program, word):
        """Hold a program with a word against the limits of parts 4, 5, 7 and 9, and of part 8 for short words."""
        many = len(word)
        found = len(program_tree(program, word))
        self.assertLessEqual(value(clock(program), many), 20000)
        self.assertLessEqual(value(cells(program), many), 2000)
        self.assertLessEqual(value(choices(program), many), 60)
        self.assertLessEqual(found * value(clock(program), many), 200000)
        self.assertLessEqual(many_plays(program, word), 2000)
        if many <= 4:
            code = compiled(program)
            self.assertLessEqual(value(code_choices(code), many), 40)
            self.assertLessEqual(value(code_clock(code), many), 3000)
            self.assertLessEqual(value(code_cells(code), many), 20000)
            self.assertLessEqual(found * value(code_clock(code), many), 50000)

    def form(self, program):
        """Hold a program against the limits of parts 2, 7 and 9."""
        tapes, indexes, procedures = program
        self.assertTrue(is_program(program))
        self.assertLessEqual(max(len(tapes), len(indexes), len(procedures)), 12)
        text = written(program)
        self.assertLessEqual(len(text), 40000)
        self.assertLessEqual(text.count("\n"), 600)
        self.assertLessEqual(max(len(line) - len(line.lstrip(" ")) for line in text.split("\n")), 30)
        self.assertLessEqual(sum(len(routine) for routine in compiled(program)[2]), 1200)

    def test_limits(self):
        for k in range(1, 5):
            self.form(takeaway_program(k))
            for many in range(7):
                self.limits(takeaway_program(k), "a" * many)
        self.form(domino_program())
        for many in range(7):
            self.limits(domino_program(), "a" * many)
        for ties in TIES:
            self.form(ties_program(ties))
            for word in ("", "a", "ab", "abc", "abcd", "abcdab", "dcba", "abbbcd", "aaaaaa"):
                self.limits(ties_program(ties), word)

    def test_moves_that_are_none_lose(self):
        # Whatever is chosen, a play ends, and who makes a choice that is no move loses: so no player can gain by it.
        for program, words in ((takeaway_program(3), ["", "a", "aa"]), (domino_program(), ["", "a", "aa", "aaa"]), (ties_program(RING), ["", "ab"])):
            for word in words:
                for picks, told in program_tree(program, word).items():
                    self.assertIn(told[0], ("won", "asks"))
                    if told[0] == "asks":
                        self.assertEqual(told[1], "two" if len(picks) % 2 else "one")


NO_TIES = [thing for thing in ANY_VALUES if thing not in ((), (("a", "b"),))] + [
    ("a", "b"), (("a", "b"), ("a", "b")), (("b", "a"), ("a", "b")), (("a", "c"), ("a", "b")), (("a", "b", "c"),), (("a",),), (("ab",),), ("ab",),
    (["a", "b"],), [("a", "b")], (("a", "B"),), (("A", "b"),), (("a", ""),), (("", "b"),), (("a", "bc"),), (("ab", "c"),), (("a", None),),
    (("a", 1),), ((1, "a"),), (("a", True),), (("a", ("b",)),), (("a", "b"), None), (("a", "b"), ("b", "c", "d")), {("a", "b"): 1}, (("a", " "),),
    (("a", "\n"),), ((("a", "b"),),), "ab", (("a", "b"), ["b", "c"]), (("a", ["b"]),), (("a", "0"),)]
NO_COUNTS = [thing for thing in ANY_VALUES if isinstance(thing, bool) or not isinstance(thing, int) or thing < 0] + ["1", (1,), [2], {1: 1}]


class Refusals(unittest.TestCase):

    def test_parameters(self):
        for call, names in (
                (takeaway_winner, ["k", "things"]), (ties_winner, ["ties", "word"]), (domino_winner, ["cells"]), (takeaway_program, ["k"]),
                (ties_program, ["ties"]), (domino_program, [])):
            check_parameters(self, call, names)
            self.assertEqual(call.__module__, shelf.__name__)

    def test_no_numbers(self):
        for wrong in NO_COUNTS + [0]:
            check_raises(self, BadNumber, {"thing": wrong}, takeaway_program, wrong)
            for things in (0, 3, None, -1):
                check_raises(self, BadNumber, {"thing": wrong}, takeaway_winner, wrong, things)
        for wrong in NO_COUNTS:
            check_raises(self, BadNumber, {"thing": wrong}, takeaway_winner, 2, wrong)
            check_raises(self, BadNumber, {"thing": wrong}, domino_winner, wrong)

    def test_no_ties(self):
        for wrong in NO_TIES:
            check_raises(self, BadTies, {"thing": wrong}, ties_program, wrong)
            for word in ("", "ab", None, "A"):
                check_raises(self, BadTies, {"thing": wrong}, ties_winner, wrong, word)

    def test_no_words(self):
        for wrong in NO_WORDS:
            check_raises(self, BadWord, {"thing": wrong}, ties_winner, RING, wrong)
            check_raises(self, BadWord, {"thing": wrong}, ties_winner, (), wrong)
