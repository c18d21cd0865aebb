"""States, tests, commands and plays: [4.1] to [4.4] and narrowplay/plays.py."""

import random
import unittest

from narrowplay import plays
from narrowplay.bounds import choices, clock
from narrowplay.errors import BadPicks, BadProgram, BadWord
from narrowplay.plays import run, state_after
from narrowplay.polys import value_at
from narrowplay.texts import read
from tests.drawn import drawn_programs
from tests.helpers import ANY_VALUES, check_gives, check_parameters, check_raises, nested, run_examples
from tests.play_reference import Playing, program_tree

EXAMPLES = r"""
>>> from narrowplay.plays import run, state_after
>>> from narrowplay.texts import read
>>> DUEL = read('tape t size 2\nindex i to 1\nprocedure main\n  one chooses t[i] from ab\n  up i\n  two chooses t[i] from ab\n  if t[i] is b\n    one wins\n  end\nend')
>>> [run(DUEL, '', 'ab'), run(DUEL, '', 'aab'), run(DUEL, '', 'a'), run(DUEL, '', 'ac'), state_after(DUEL, '', 'a'), state_after(DUEL, '', 'bb')]
[('won', 'one', 5, 2), ('won', 'two', 4, 2), ('asks', 'two', 'ab', 2), ('wrong', 1), ((('a', None),), (1,)), ((('b', 'b'),), (1,))]
"""

DUEL = read("tape t size 2\nindex i to 1\nprocedure main\n  one chooses t[i] from ab\n  up i\n  two chooses t[i] from ab\n"
            "  if t[i] is b\n    one wins\n  end\nend")
# Tapes of 0, 2 and 3 cells, one of n + 1, and indexes with bounds of 0, 1, 3, 5 and n.
HEAD = """tape none size 0
tape t size 2
tape u size 3
tape w size n + 1
index zero to 0
index o to 1
index i to 3
index j to 5
index k to n
"""


def program_of(lines, head=HEAD):
    """Return a program whose main procedure has some lines."""
    return read(head + "procedure main\n" + lines + "\nend")


def state_by(lines, word="", picks=""):
    """Return as dicts what the tapes and the indexes of HEAD hold after some lines."""
    program = program_of(lines)
    cells, numbers = state_after(program, word, picks)
    return (dict(zip(("none", "t", "u", "w"), cells)), dict(zip(("zero", "o", "i", "j", "k"), numbers)))


class States(unittest.TestCase):

    def test_beginning(self):
        for word in ("", "a", "bcz", "n" * 40):
            blank = ((), (None,) * 2, (None,) * 3, (None,) * (len(word) + 1))
            check_gives(self, (blank, (0,) * 5), state_after, program_of(""), word, "")
        check_gives(self, ((), ()), state_after, ((), (), ()), "abc", "abc")
        check_gives(self, (((None, None),), ()), state_after, ((("t", ((0, 2),)),), (), ()), "", "")
        check_gives(self, ((), (0, 0)), state_after, ((), (("i", ()), ("j", ((1, 3),))), ()), "ab", "")

    def test_sizes_and_bounds_at_each_length(self):
        program = (
            (("a", ((0, 2), (1, 3))), ("b", ((2, 1),)), ("c", ()), ("d", ((12, 1),))), (("i", ((0, 1), (1, 2))), ("j", ((2, 1),))),
            (("p", (("repeat", ((0, 50),), (("up", "i"), ("up", "j"))),)),))
        for many in range(2):
            cells, numbers = state_after(program, "x" * many, "")
            self.assertEqual([len(held) for held in cells], [2 + 3 * many, many ** 2, 0, many ** 12])
            self.assertEqual(numbers, (1 + 2 * many, many ** 2))
        program = (program[0][:3],) + program[1:]
        for many in range(7):
            cells, numbers = state_after(program, "x" * many, "")
            self.assertEqual([len(held) for held in cells], [2 + 3 * many, many ** 2, 0])
            self.assertEqual(numbers, (1 + 2 * many, many ** 2))

    def test_input_holds_the_word(self):
        for word in ("", "a", "ba", "zyx", "mississippi"):
            lines = "repeat n\nw[k] = input[k]\nup k\nend\nw[k] = input[k]"
            cells, numbers = state_by(lines, word)
            self.assertEqual(cells["w"], tuple(word) + (None,))
            self.assertEqual(numbers["k"], len(word))


# Tests, what is done before them, a word, and whether they are true.
TRUTHS = [
    ("t[i] is a", "t[i] = a", "", True), ("t[i] is b", "t[i] = a", "", False), ("t[i] is a", "", "", False),
    ("t[i] is a", "up i\nt[i] = a", "", True), ("t[i] is a", "up i\nt[i] = a\ni = 0", "", False),
    ("t[i] is a", "up i\nt[i] = a\nup i", "", False), ("none[i] is a", "none[i] = a", "", False),
    ("input[i] is a", "", "", False), ("input[i] is a", "", "a", True), ("input[i] is a", "", "b", False),
    ("input[i] is b", "up i", "ab", True), ("input[i] is b", "up i\nup i", "ab", False), ("input[i] is n", "", "n", True),
    ("t[i] equals u[j]", "t[i] = a\nu[i] = a", "", True), ("t[i] equals u[j]", "t[i] = a\nu[i] = b", "", False),
    ("t[i] equals u[j]", "", "", False), ("t[i] equals u[j]", "t[i] = a", "", False), ("t[i] equals u[j]", "u[i] = a", "", False),
    ("t[i] equals t[i]", "", "", False), ("t[i] equals t[i]", "t[i] = c", "", True), ("t[i] equals t[j]", "t[i] = c\nup j", "", False),
    ("t[i] equals u[j]", "t[i] = a\nup j\nu[j] = a", "", True), ("t[i] equals u[j]", "u[j] = a\nup i\nt[i] = a", "", True),
    ("t[i] equals u[j]", "up i\nup i\nup j\nup j\nu[j] = a", "", False), ("u[j] equals t[i]", "up i\nup i\nu[j] = a", "", False),
    ("none[i] equals none[i]", "", "", False), ("none[i] equals t[i]", "t[i] = a", "", False),
    ("t[i] equals none[i]", "t[i] = a", "", False), ("input[i] equals input[j]", "", "", False),
    ("input[i] equals input[j]", "up j", "aa", True), ("input[i] equals input[j]", "up j", "ab", False),
    ("input[i] equals input[j]", "up j", "a", False), ("input[i] equals t[j]", "t[i] = q", "q", True),
    ("t[i] empty", "", "", True), ("t[i] empty", "t[i] = a", "", False), ("t[i] empty", "t[i] = a\nt[i] = empty", "", True),
    ("t[i] empty", "up i", "", True), ("t[i] empty", "up i\nup i", "", False), ("none[i] empty", "", "", False),
    ("input[i] empty", "", "", False), ("input[i] empty", "", "a", False), ("t[i] empty", "t[i] = a\nup i", "", True),
    ("t has i", "", "", True), ("t has i", "t[i] = a", "", True), ("t has i", "up i", "", True), ("t has i", "up i\nup i", "", False),
    ("none has i", "", "", False), ("none has zero", "up zero", "", False), ("input has i", "", "", False),
    ("input has i", "", "a", True), ("input has i", "up i", "a", False), ("w has k", "up k", "a", True),
    ("w has i", "up i\nup i", "a", False),
    ("i = j", "", "", True), ("i = i", "up i", "", True), ("i = j", "up i", "", False), ("i = j", "up j", "", False),
    ("i = j", "up i\nup j", "", True), ("zero = i", "up zero", "", True), ("zero = o", "up zero\nup o", "", False),
    ("i = j", "up i\nup i\nup i\nup i\nup j\nup j\nup j", "", True), ("i = j", "repeat 9\nup i\nup j\nend", "", False),
    ("k = i", "up k", "", True), ("k = i", "up k", "b", False),
]
# Commands, a word, and what a tape or an index holds after them.
CHANGES = [
    ("t[i] = a", "", "t", ("a", None)), ("up i\nt[i] = z", "", "t", (None, "z")), ("up i\nup i\nt[i] = z", "", "t", (None, None)),
    ("none[i] = a", "", "none", ()), ("t[i] = a\nt[i] = b", "", "t", ("b", None)), ("w[k] = a", "", "w", ("a",)),
    ("w[k] = a\nup k\nw[k] = n", "xx", "w", ("a", "n", None)),
    ("t[i] = a\nup j\nt[j] = t[i]", "", "t", ("a", "a")), ("t[i] = a\nt[i] = u[j]", "", "t", (None, None)),
    ("t[i] = a\nup j\nt[i] = t[j]", "", "t", (None, None)), ("t[i] = a\nt[i] = t[i]", "", "t", ("a", None)),
    ("t[i] = a\nrepeat 3\nup j\nend\nt[i] = u[j]", "", "t", ("a", None)),
    ("t[i] = a\nt[i] = none[i]", "", "t", ("a", None)), ("t[i] = a\nt[i] = input[i]", "", "t", ("a", None)),
    ("t[i] = a\nt[i] = input[i]", "q", "t", ("q", None)), ("t[i] = a\nup j\nt[i] = input[j]", "q", "t", ("a", None)),
    ("t[i] = a\nup j\nt[i] = input[j]", "qr", "t", ("r", None)), ("u[i] = a\nup j\nup j\nt[j] = u[i]", "", "t", (None, None)),
    ("u[i] = a\nup j\nup j\nt[j] = u[i]", "", "u", ("a", None, None)), ("none[i] = t[i]", "", "none", ()),
    ("u[i] = a\nup j\nt[j] = u[i]\nu[i] = b", "", "t", (None, "a")),
    ("t[i] = a\nt[i] = empty", "", "t", (None, None)), ("t[i] = a\nup i\nt[i] = empty", "", "t", ("a", None)),
    ("t[i] = a\nup i\nt[i] = b\nt[i] = empty", "", "t", ("a", None)), ("t[i] = a\nup i\nup i\nt[i] = empty", "", "t", ("a", None)),
    ("none[i] = empty", "", "none", ()), ("t[i] = empty", "", "t", (None, None)),
    ("i = 0", "", "i", 0), ("up i\ni = 0", "", "i", 0), ("up i\nup i\nup i\nup i\ni = 0", "", "i", 0), ("up i\nj = 0", "", "i", 1),
    ("up i", "", "i", 1), ("up i\nup i", "", "i", 2), ("up i\nup i\nup i", "", "i", 3), ("up i\nup i\nup i\nup i", "", "i", 3),
    ("up zero", "", "zero", 0), ("up o\nup o", "", "o", 1), ("up k", "", "k", 0), ("up k", "x", "k", 1), ("up k\nup k", "x", "k", 1),
    ("up k\nup k", "xyz", "k", 2), ("up j", "", "i", 0),
    ("down i", "", "i", 0), ("up i\ndown i", "", "i", 0), ("up i\nup i\ndown i", "", "i", 1), ("up i\ndown i\ndown i", "", "i", 0),
    ("repeat 7\nup i\nend\ndown i", "", "i", 2), ("down zero", "", "zero", 0), ("down k", "", "k", 0), ("up i\ndown j", "", "i", 1),
    ("up i\nup i\nj = i", "", "j", 2), ("up i\nup i\nj = i", "", "i", 2), ("up i\nup i\ni = j", "", "i", 0),
    ("repeat 5\nup j\nend\ni = j", "", "i", 3), ("repeat 5\nup j\nend\ni = j", "", "j", 5), ("repeat 3\nup j\nend\ni = j", "", "i", 3),
    ("repeat 4\nup j\nend\ni = j", "", "i", 3), ("up j\nzero = j", "", "zero", 0), ("up j\nk = j", "", "k", 0),
    ("up j\nup j\nk = j", "x", "k", 1), ("up j\nup j\nk = j", "xy", "k", 2), ("up i\ni = i", "", "i", 1), ("up j\no = j\nup o", "", "o", 1),
]


class TestsAndCommands(unittest.TestCase):

    def test_truths(self):
        for test, before, word, wanted in TRUTHS:
            for nots in range(4):
                lines = before + "\nif " + "not " * nots + test + "\none wins\nelse\ntwo wins\nend"
                truth = wanted == (nots % 2 == 0)
                told = run(program_of(lines), word, "")
                self.assertEqual(told[:2], ("won", "one" if truth else "two"), (lines, word))

    def test_changes(self):
        for lines, word, name, wanted in CHANGES:
            cells, numbers = state_by(lines, word)
            self.assertEqual(repr((cells | numbers)[name]), repr(wanted), (lines, word))

    def test_nothing_else_changes(self):
        for lines, word, _, _ in CHANGES + [(before, word, 0, 0) for _, before, word, _ in TRUTHS]:
            cells, numbers = state_by(lines, word)
            told = Playing(program_of(lines), word, "")
            self.assertEqual((tuple(cells.values()), tuple(numbers.values())), told.state)

    def test_names_of_several_sorts(self):
        program = read("tape i size 2\ntape t size 2\nindex i to 1\nindex t to 2\nindex input to 1\nprocedure i\nup i\nend\n"
                       "procedure input\ni[i] = a\ndo i\ni[i] = b\nt[input] = input[input]\nup input\nt[input] = input[t]\nup t\nend")
        check_gives(self, ((("a", "b"), ("q", "q")), (1, 1, 1)), state_after, program, "q", "")
        check_gives(self, ((("a", "b"), (None, None)), (1, 1, 1)), state_after, program, "", "")
        check_gives(self, ("won", "two", 8, 0), run, program, "", "")

    def test_each_state_against_the_reference(self):
        tests = ["t[i] is a", "input[i] is a", "t[i] equals u[j]", "t[i] equals input[j]", "u[j] empty", "input[i] empty", "t has i",
                 "input has j", "i = j", "k = j", "none has i"]
        before = ["t[i] = a", "t[i] = t[j]", "u[j] = t[i]", "u[j] = input[i]", "t[i] = empty", "i = j", "k = j", "down i"]
        for up_i in range(4):
            for up_j in range(4):
                moves = "up i\n" * up_i + "up j\n" * up_j
                for first in before:
                    program = program_of("t[j] = a\nu[i] = a\n" + moves + first + "".join(
                        "\nif " + test + "\none chooses w[zero] from x\nelse\none chooses w[zero] from y\nend" for test in tests))
                    for word in ("", "a", "ba"):
                        picks = ""
                        while run(program, word, picks)[0] == "asks":
                            picks = picks + run(program, word, picks)[2]
                        told = Playing(program, word, picks)
                        self.assertEqual(run(program, word, picks), told.told)
                        self.assertEqual(state_after(program, word, picks), told.state)


# Lines, a word, and the steps to the end of the play.
STEPS = [
    ("", "", 0), ("up i", "", 1), ("up i\nup i", "", 2), ("t[i] = a", "", 1), ("t[i] = u[j]", "", 1), ("t[i] = empty", "", 1),
    ("i = 0", "", 1), ("down i", "", 1), ("i = j", "", 1), ("one wins", "", 1), ("one wins\nup i", "", 1), ("none[i] = a", "", 1),
    ("if i = j\nend", "", 1), ("if i = j\nup i\nend", "", 2), ("if i = j\nelse\nup i\nend", "", 1),
    ("if not i = j\nup i\nup i\nelse\nup i\nend", "", 2), ("if i = j\nif i = j\nup i\nend\nend", "", 3),
    ("if not not not i = j\nup i\nend", "", 1),
    ("repeat 0\nup i\nend", "", 1), ("repeat 1\nup i\nend", "", 3), ("repeat 3\nup i\nend", "", 7), ("repeat 3\nend", "", 4),
    ("repeat n\nup i\nend", "", 1), ("repeat n\nup i\nend", "abc", 7), ("repeat n + 1\nend", "ab", 4), ("repeat n^2\nend", "abc", 10),
    ("repeat 2\nrepeat 3\nup i\nend\nend", "", 17), ("repeat 2\nrepeat 0\nup i\nend\nend", "", 5),
    ("repeat 0\nrepeat 3\nup i\nend\nend", "", 1), ("repeat 2\nif i = j\nup i\nelse\nend\nend", "", 6),
    ("repeat 2\nrepeat 2\nrepeat 2\nup i\nend\nend\nend", "", 1 + 2 * (1 + 2 * (1 + 2 * 2 + 1) + 1)),
    ("repeat 5\none wins\nend", "", 2), ("repeat 5\nup i\nif i = o\nelse\none wins\nend\nend", "", 4),
    ("repeat 5\nup i\nif not i = o\none wins\nend\nend", "", 4), ("repeat 5\nif i = o\nup i\nelse\ntwo wins\nend\nend", "", 6),
]


class Plays(unittest.TestCase):

    def test_steps(self):
        for lines, word, steps in STEPS:
            told = run(program_of(lines), word, "")
            self.assertEqual((told[0], told[2:]), ("won", (steps, 0)), lines)
            self.assertEqual(told[1], "one" if "one wins" in lines else "two", lines)

    def test_procedures(self):
        text = ("procedure a\nup i\nend\nprocedure b\nend\nprocedure c\ndo a\ndo b\ndo a\nend\n"
                "procedure main\ndo c\nrepeat 2\ndo b\ndo c\nend\nend")
        program = read("index i to 9\n" + text)
        check_gives(self, ("won", "two", 6 + 1 + 2 * (1 + 6 + 1), 0), run, program, "", "")
        check_gives(self, ((), (6,)), state_after, program, "", "")
        # The main procedure is the last one, whatever it is called.
        program = read("index i to 9\nprocedure main\none wins\nend\nprocedure a\nup i\nend")
        check_gives(self, ("won", "two", 1, 0), run, program, "", "")
        check_gives(self, ("won", "one", 2, 0), run, read("procedure main\none wins\nend\nprocedure a\ndo main\nend"), "", "")

    def test_wins_within(self):
        for player in ("one", "two"):
            wins = player + " wins"
            text = ("tape t size 1\nindex i to 9\nprocedure p\nup i\nrepeat 3\nif i = i\n" + wins + "\nend\nup i\nend\nend\n"
                    "procedure q\nrepeat 2\ndo p\none wins\nend\ntwo wins\nend\n"
                    "procedure main\nif t[i] is a\nelse\ndo q\nend\none wins\ntwo wins\nend")
            check_gives(self, ("won", player, 8, 0), run, read(text), "", "x")
            check_gives(self, (((None,),), (1,)), state_after, read(text), "", "x")
        for first, second in (("one", "two"), ("two", "one"), ("one", "one")):
            check_gives(self, ("won", first, 1, 0), run, program_of(first + " wins\n" + second + " wins"), "", "")

    def test_deep_procedures(self):
        text = "index i to 9\nprocedure p0\nup i\nend\n" + "".join(
            "procedure p" + str(at) + "\n" + "if i = i\n" * 14 + "do p" + str(at - 1) + "\n" + "end\n" * 14 + "end\n"
            for at in range(1, 20))
        check_gives(self, ("won", "two", 1 + 19 * 15, 0), run, read(text), "", "")

    def test_without_anything(self):
        for program in (((), (), ()), ((("t", ()),), (("i", ()),), ()), ((), (), (("main", ()),))):
            for word in ("", "ab"):
                for picks in ("", "a", "zz"):
                    check_gives(self, ("won", "two", 0, 0), run, program, word, picks)

    def test_picks(self):
        program = program_of("one chooses t[i] from ac\nup i\ntwo chooses t[i] from b\nup i\none chooses t[i] from abz\none wins")
        for picks, wanted, held in (
                ("", ("asks", "one", "ac", 0), (None, None)), ("a", ("asks", "two", "b", 2), ("a", None)),
                ("c", ("asks", "two", "b", 2), ("c", None)), ("b", ("wrong", 0), (None, None)), ("z", ("wrong", 0), (None, None)),
                ("ba", ("wrong", 0), (None, None)), ("ab", ("asks", "one", "abz", 4), ("a", "b")), ("aa", ("wrong", 1), ("a", None)),
                ("aca", ("wrong", 1), ("a", None)), ("aba", ("won", "one", 6, 3), ("a", "b")), ("cbz", ("won", "one", 6, 3), ("c", "b")),
                ("abc", ("wrong", 2), ("a", "b")), ("abn", ("wrong", 2), ("a", "b")), ("abza", ("won", "one", 6, 3), ("a", "b")),
                ("abbqqq", ("won", "one", 6, 3), ("a", "b")), ("abcb", ("wrong", 2), ("a", "b")), ("cc", ("wrong", 1), ("c", None))):
            check_gives(self, wanted, run, program, "", picks)
            cells, numbers = state_after(program, "", picks)
            self.assertEqual((cells[1], numbers[2]), (held, len([letter for letter in held if letter])))

    def test_choices_in_loops(self):
        program = program_of("repeat n\none chooses w[k] from ab\nup k\nend\nif w[k] empty\none wins\nend")
        for word in ("", "x", "xyz"):
            for many in range(6):
                told = run(program, word, "bababa")
                self.assertEqual(told, ("won", "one", 3 + 3 * len(word), len(word)))
                told = run(program, word, "b" * many)
                if many >= len(word):
                    self.assertEqual(told, ("won", "one", 3 + 3 * len(word), len(word)))
                else:
                    self.assertEqual(told, ("asks", "one", "ab", 1 + 3 * many))
                    self.assertEqual(run(program, word, "b" * many + "c"), ("wrong", many))
            self.assertEqual(state_after(program, word, "babb")[0][3], tuple("babb"[:len(word)]) + (None,))

    def test_choice_into_no_cell(self):
        program = program_of("one chooses none[i] from ab\ntwo chooses t[i] from ab\nup i\nup i\none chooses t[i] from z")
        check_gives(self, ("asks", "two", "ab", 1), run, program, "", "a")
        check_gives(self, ("won", "two", 5, 3), run, program, "", "abz")
        check_gives(self, ((), ("b", None), (None,) * 3, (None,)), lambda program: state_after(program, "", "abz")[0], program)
        check_gives(self, ("wrong", 0), run, program, "", "c")

    def test_choice_over_a_letter(self):
        program = program_of("t[i] = q\none chooses t[i] from ab")
        check_gives(self, ("q", None), lambda program: state_after(program, "", "")[0][1], program)
        check_gives(self, ("q", None), lambda program: state_after(program, "", "q")[0][1], program)
        check_gives(self, ("b", None), lambda program: state_after(program, "", "bb")[0][1], program)

    def test_tests_between_choices(self):
        program = program_of("one chooses t[i] from ab\nif t[i] is a\ntwo chooses u[i] from cd\nif u[i] is d\none wins\nend\nelse\n"
                             "one chooses u[i] from e\ntwo wins\nend\none chooses u[j] from f\none wins")
        for picks, wanted in (
                ("ac", ("asks", "one", "f", 4)), ("ad", ("won", "one", 5, 2)), ("adf", ("won", "one", 5, 2)),
                ("acf", ("won", "one", 6, 3)), ("b", ("asks", "one", "e", 2)), ("be", ("won", "two", 4, 2)), ("bc", ("wrong", 1)),
                ("ace", ("wrong", 2)), ("ae", ("wrong", 1))):
            check_gives(self, wanted, run, program, "", picks)

    def test_drawn_programs(self):
        drawn = random.Random(4)
        seen = {"won": 0, "asks": 0, "wrong": 0}
        for program in drawn_programs(range(120)):
            word = "".join(drawn.choice("abc") for _ in range(drawn.randrange(4)))
            if value_at(choices(program), len(word)) > 6:
                continue
            for picks in sorted(program_tree(program, word))[:12]:
                for after in ("", drawn.choice("abc"), "zz"):
                    wanted = Playing(program, word, picks + after)
                    seen[wanted.told[0]] += 1
                    self.assertEqual(run(program, word, picks + after), wanted.told)
                    self.assertEqual(state_after(program, word, picks + after), wanted.state)
                    if wanted.told[0] != "wrong":
                        steps = wanted.told[2] if wanted.told[0] == "won" else wanted.told[3]
                        self.assertLessEqual(steps, value_at(clock(program), len(word)))
                    self.assertLessEqual(wanted.taken, value_at(choices(program), len(word)))
        self.assertGreater(min(seen.values()), 100, seen)

    def test_long_plays(self):
        word = "ab" * 20
        program = read("tape t size 1800\nindex i to 3*n^12\nprocedure main\nrepeat 9999\nup i\nend\none wins\nend")
        check_gives(self, ("won", "one", 20000, 0), run, program, word, "")
        self.assertEqual(state_after(program, word, "")[1], (9999,))
        program = read("tape t size 1800\nindex i to n^2\nprocedure main\nrepeat 2*n + 1\nrepeat 2*n\nif not " + "not " * 14 + "t has i\n"
                       "else\nup i\nend\nend\nend\nend")
        told = Playing(program, word, "")
        check_gives(self, told.told, run, program, word, "")
        self.assertEqual(state_after(program, word, ""), told.state)


# Values that are no programs: no scripts, and scripts with faults.
NO_PROGRAMS = ANY_VALUES + [
    list(DUEL), (DUEL,), DUEL[:2], DUEL[::-1], (DUEL[0], DUEL[1], list(DUEL[2])), (DUEL[0], (), DUEL[2]), ((), DUEL[1], DUEL[2]),
    (DUEL[0] * 2, DUEL[1], DUEL[2]), (DUEL[0], DUEL[1], DUEL[2] * 2), (DUEL[0], DUEL[1], (("main", (("do", "main"),)),)),
    ((("input", ()),), (), ()), (DUEL[0], DUEL[1], (("p", (("set", "input", "i", "a"),)),)), nested(lambda core: (core,), 5, DUEL),
]
NO_WORDS = [thing for thing in ANY_VALUES if not (isinstance(thing, str) and all("a" <= sign <= "z" for sign in thing))] + [
    "aB", "a ", " a", "a1", "a\n", ["a"], ("a", "b"), "\u00e4", "a-b"]


class Refusals(unittest.TestCase):

    def test_parameters(self):
        for call in (run, state_after):
            check_parameters(self, call, ["program", "word", "picks"])
            self.assertEqual(call.__module__, plays.__name__)

    def test_no_programs(self):
        for call in (run, state_after):
            for wrong in NO_PROGRAMS:
                for word, picks in (("", ""), (None, ""), ("", 3), (["a"], "A")):
                    check_raises(self, BadProgram, {"thing": wrong}, call, wrong, word, picks)

    def test_no_words(self):
        for call in (run, state_after):
            for wrong in NO_WORDS:
                for picks in ("", "ab", "A", None, wrong):
                    check_raises(self, BadWord, {"thing": wrong}, call, DUEL, wrong, picks)

    def test_no_picks(self):
        for call in (run, state_after):
            for wrong in NO_WORDS:
                for word in ("", "ab"):
                    check_raises(self, BadPicks, {"thing": wrong}, call, DUEL, word, wrong)
                    check_raises(self, BadPicks, {"thing": wrong}, call, ((), (), ()), word, wrong)

    def test_right_arguments(self):
        for call in (run, state_after):
            for word in ("", "a", "z" * 40):
                for picks in ("", "a", "bb", "z" * 200):
                    self.assertIsInstance(call(DUEL, word, picks), tuple)

    def test_examples(self):
        run_examples(self, EXAMPLES)
