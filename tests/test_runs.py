"""Runs of the plain machine and the cells that it holds: [8.1], [8.2] and narrowplay/runs.py."""

import random
import unittest

from narrowplay import runs
from narrowplay.errors import BadCode, BadPicks, BadWord
from narrowplay.runs import cells_held, run_code
from tests import test_plays
from tests.code_reference import Running, code_tree
from tests.drawn import drawn_code
from tests.helpers import check_gives, check_parameters, check_raises, nested, run_examples
from tests.test_codebounds import NO_CODE
from tests.test_plays import NO_WORDS

EXAMPLES = r"""
>>> from narrowplay.runs import cells_held, run_code
>>> from narrowplay.narrow import code_plan_holds, code_plays, narrow
>>> GUESS = ((((1, 1),), ((0, 1),)), (((0, 1),),), ((("choose", "two", 1, 0, "ab"), ("unless", ("equal", 0, 0, 1, 0), 3), ("wins", "one")),))
>>> [run_code(GUESS, "a", "a"), run_code(GUESS, "a", "b"), run_code(GUESS, "a", ""), run_code(GUESS, "a", "c"), cells_held(GUESS, "a", "b")]
[('won', 'one', 3, 1), ('won', 'two', 2, 1), ('asks', 'two', 'ab', 0), ('wrong', 0), 4]
>>> [narrow(GUESS, "a"), code_plays(GUESS, "a"), code_plan_holds(GUESS, "a", "two", ("pick", "b", ("end",))), code_plan_holds(GUESS, "a", "one", ("all", (("end",), ("end",))))]
[('two', 5, 4), (('a', 'one'), ('b', 'two')), True, False]
"""

INPUT = ((1, 1),)
UP = ("up", 0)
ONE = ("wins", "one")
GUESS = ((INPUT, ((0, 1),)), (((0, 1),),),
         ((("choose", "two", 1, 0, "ab"), ("unless", ("equal", 0, 0, 1, 0), 3), ("wins", "one")),))
# Tapes of 2, 3, n + 1 and 0 cells behind the input, and indexes with bounds of 3, 5, 1, n and 0.
TAPES = (INPUT, ((0, 2),), ((0, 3),), ((0, 1), (1, 1)), ())
INDEXES = (((0, 3),), ((0, 5),), ((0, 1),), INPUT, ())
CELLS = 2 + 3 + 1 + 5


def constant(number):
    return ((0, number),) if number else ()


def of_rows(*rows):
    return (TAPES, INDEXES, (rows,))


def loop(at, rounds, *rows):
    """Return the rows of a loop that begins at a row."""
    return (("repeat", constant(rounds), at + len(rows) + 1),) + rows + (("again", at),)


# Rows and the steps to the end with an empty word.
STEPS = [
    ((), 0), ((UP,), 1), ((UP, UP), 2), ((ONE,), 1), ((ONE, UP), 1), ((("set", 1, 0, "a"),), 1), ((("copy", 1, 0, 2, 0),), 1),
    ((("clear", 1, 0),), 1), ((("zero", 0), ("down", 0), ("same", 0, 1)), 3),
    ((("jump", 1),), 1), ((("jump", 1), UP), 2), ((("jump", 2), UP, UP), 2), ((("jump", 3), UP, UP), 1),
    ((("jump", 2), UP, ("jump", 4), UP), 2),
    ((("unless", ("at", 0, 1), 2), UP), 2), ((("unless", ("at", 0, 1), 2), UP, UP), 3), ((("unless", ("not", ("at", 0, 1)), 2), UP), 1),
    ((("unless", ("not", ("at", 0, 1)), 2), UP, UP), 2), ((("unless", ("not", ("not", ("at", 0, 1))), 2), UP, UP), 3),
    ((UP, ("unless", ("at", 0, 1), 3), UP, UP), 3), ((UP, ("unless", ("at", 0, 1), 4), UP, UP), 2),
    (loop(0, 0), 1), (loop(0, 0, UP), 1), (loop(0, 1), 2), (loop(0, 1, UP), 3), (loop(0, 4), 5), (loop(0, 4, UP, UP), 13),
    (loop(0, 0, UP) + (UP,), 2), (loop(0, 2, UP) + (UP,), 6), (loop(0, 3, *loop(1, 2, UP)), 1 + 3 * (1 + 2 * 2 + 1)),
    (loop(0, 3, *loop(1, 0, UP)), 1 + 3 * 2), (loop(0, 0, *loop(1, 4, UP)), 1), (loop(0, 2, *(loop(1, 2) + loop(3, 3))), 1 + 2 * (3 + 4 + 1)),
    (loop(0, 2, ("jump", 3), UP), 5), (loop(0, 3, ("unless", ("at", 0, 1), 3), UP), 1 + 3 + 2 * 2),
    (loop(0, 3, UP, ("unless", ("at", 0, 2), 4), UP), 1 + 3 * 3), (loop(0, 9, UP, ONE), 3),
    (loop(0, 2, ("jump", 5), *loop(2, 3, UP)), 1 + 2 * 2), ((("jump", 4),) + loop(1, 3, UP) + (UP,), 2),
    ((("jump", 1),) + loop(1, 3, UP), 8), (loop(0, 2, UP, ("jump", 3)), 7),
]


class Steps(unittest.TestCase):

    def test_steps(self):
        for rows, steps in STEPS:
            told = Running(of_rows(*rows), "", "").told
            self.assertEqual(told[2], steps, rows)
            check_gives(self, told, run_code, of_rows(*rows), "", "")
            check_gives(self, ("won", "one" if ONE in rows else "two", steps, 0), run_code, of_rows(*rows), "", "")

    def test_rounds_at_each_length(self):
        code = (TAPES, INDEXES, ((("repeat", ((0, 1), (2, 1)), 3), UP, UP, ("again", 0)),))
        for length in range(6):
            check_gives(self, ("won", "two", 1 + 3 * (1 + length ** 2), 0), run_code, code, "a" * length, "")
        code = (TAPES, INDEXES, ((("repeat", INPUT, 3), UP, UP, ("again", 0)),))
        for length in range(4):
            check_gives(self, ("won", "two", 1 + 3 * length, 0), run_code, code, "a" * length, "")

    def test_calls(self):
        code = (TAPES, INDEXES, ((UP,), (), (("call", 0), ("call", 1), ("call", 0)), loop(0, 2, ("call", 2)) + (("call", 0),)))
        check_gives(self, ("won", "two", 1 + 2 * (1 + 5 + 1) + 2, 0), run_code, code, "", "")
        check_gives(self, ("won", "two", 1, 0), run_code, (TAPES, INDEXES, ((ONE,), (UP,))), "", "")
        check_gives(self, ("won", "one", 2, 0), run_code, (TAPES, INDEXES, ((ONE,), (("call", 0), UP))), "", "")
        check_gives(self, ("won", "one", 5, 0), run_code, (TAPES, INDEXES, ((ONE,), (UP, UP, UP, ("call", 0), UP))), "", "")

    def test_jump_to_the_end_of_a_called_routine(self):
        called = (("unless", ("at", 0, 1), 3), UP, ("jump", 4), ONE)
        check_gives(self, ("won", "two", 5, 0), run_code, (TAPES, INDEXES, (called, (("call", 0), UP))), "", "")
        check_gives(self, ("won", "one", 7, 0), run_code, (TAPES, INDEXES, (called, (("call", 0), ("call", 0), UP))), "", "")
        inner = (("call", 0), ("jump", 3), ONE)
        check_gives(self, ("won", "two", 1 + 1 + 3 + 1 + 1, 0), run_code, (TAPES, INDEXES, (called, inner, (("call", 1), UP))), "", "")

    def test_without_anything(self):
        for routines in ((), ((),), ((), ()), ((ONE,), ())):
            for word in ("", "ab"):
                for picks in ("", "z", "abc"):
                    check_gives(self, ("won", "two", 0, 0), run_code, (TAPES, INDEXES, routines), word, picks)
                    check_gives(self, ("won", "two", 0, 0), run_code, ((INPUT,), (), routines), word, picks)

    def test_deep_calls(self):
        routines = ((UP,),)
        for at in range(11):
            rows = (("call", at),)
            for _ in range(5):
                rows = tuple((row[0], row[1], row[2] + 1) if row[0] == "repeat" else (row[0], row[1] + 1) if row[0] == "again" else row
                             for row in rows)
                rows = (("repeat", constant(1), len(rows) + 1),) + rows + (("again", 0),)
            routines = routines + (rows,)
        code = ((INPUT,), (constant(3),), routines)
        check_gives(self, ("won", "two", 11 * 11 + 1, 0), run_code, code, "", "")
        check_gives(self, 1 + 11 * 5 + 11, cells_held, code, "", "")


class CommandsOfRows(unittest.TestCase):

    def numbered(self, text):
        """Return what stands for a name of HEAD in test_plays, as in the tapes and indexes here."""
        return {"input": 0, "t": 1, "u": 2, "w": 3, "none": 4, "i": 0, "j": 1, "o": 2, "k": 3, "zero": 4}[text]

    def in_rows(self, whole):
        """Return a command or a test with numbers in place of names."""
        places = {"set": (1, 2), "copy": (1, 2, 3, 4), "clear": (1, 2), "zero": (1,), "up": (1,), "down": (1,), "same": (1, 2), "is": (1, 2),
                  "equal": (1, 2, 3, 4), "empty": (1, 2), "inside": (1, 2), "at": (1, 2)}[whole[0]]
        return tuple(self.numbered(part) if at in places else part for at, part in enumerate(whole))

    def rows_of(self, commands):
        rows = ()
        for command in commands:
            if command[0] == "repeat":
                for _ in range(command[1][0][1]):
                    rows += self.rows_of(command[2])
            else:
                rows += (self.in_rows(command),)
        return rows

    def test_truths(self):
        for test, before, word, wanted in test_plays.TRUTHS:
            commands = test_plays.program_of(before + "\nif " + test + "\nend")[2][0][1]
            rows = self.rows_of(commands[:-1])
            for nots in range(3):
                asked = nested(lambda core: ("not", core), nots, self.in_rows(commands[-1][1]))
                code = of_rows(*rows, ("unless", asked, len(rows) + 2), ONE)
                player = "one" if wanted == (nots % 2 == 0) else "two"
                check_gives(self, ("won", player, len(rows) + 1 + (player == "one"), 0), run_code, code, word, "")

    def test_changes(self):
        for lines, word, name, wanted in test_plays.CHANGES:
            rows = self.rows_of(test_plays.program_of(lines)[2][0][1])
            number = self.numbered(name)
            if isinstance(wanted, int):
                # One more index is counted up to the number that is wanted.
                code = (TAPES, INDEXES + (constant(9),), (
                    rows + (("up", 5),) * wanted + (("unless", ("at", number, 5), len(rows) + wanted + 2), ONE),))
                self.assertEqual(run_code(code, word, "")[:2], ("won", "one"), lines)
                continue
            for at, letter in enumerate(wanted):
                test = ("empty", number, 1) if letter is None else ("is", number, 1, letter)
                told = rows + (("zero", 1),) + (("up", 1),) * at
                code = of_rows(*told, ("unless", test, len(told) + 2), ONE)
                self.assertEqual(run_code(code, word, "")[:2], ("won", "one"), (lines, at))
            told = rows + (("zero", 1),) + (("up", 1),) * len(wanted)
            code = of_rows(*told, ("unless", ("not", ("inside", number, 1)), len(told) + 2), ONE)
            self.assertEqual(run_code(code, word, "")[:2], ("won", "one"), lines)


class Picks(unittest.TestCase):

    def test_picks(self):
        code = of_rows(("choose", "one", 1, 0, "ac"), UP, ("choose", "two", 1, 0, "b"), UP, ("choose", "one", 1, 0, "abz"), ONE)
        for picks, wanted in (
                ("", ("asks", "one", "ac", 0)), ("a", ("asks", "two", "b", 2)), ("c", ("asks", "two", "b", 2)), ("b", ("wrong", 0)),
                ("z", ("wrong", 0)), ("ba", ("wrong", 0)), ("ab", ("asks", "one", "abz", 4)), ("aa", ("wrong", 1)), ("aca", ("wrong", 1)),
                ("aba", ("won", "one", 6, 3)), ("cbz", ("won", "one", 6, 3)), ("abc", ("wrong", 2)), ("abn", ("wrong", 2)),
                ("abza", ("won", "one", 6, 3)), ("abbqqq", ("won", "one", 6, 3)), ("abcb", ("wrong", 2)), ("cc", ("wrong", 1))):
            check_gives(self, wanted, run_code, code, "", picks)
            if wanted[0] == "wrong":
                check_raises(self, BadPicks, {"thing": picks}, cells_held, code, "", picks)
            else:
                check_gives(self, CELLS + len(picks), cells_held, code, "", picks)

    def test_choices_in_loops(self):
        rows = (("repeat", INPUT, 3), ("choose", "one", 3, 3, "ab"), ("up", 3), ("again", 0), ("unless", ("empty", 3, 3), 6), ONE)
        for word in ("", "x", "xyz"):
            for many in range(6):
                told = run_code(of_rows(*rows), word, "b" * many)
                if many >= len(word):
                    self.assertEqual(told, ("won", "one", 3 + 3 * len(word), len(word)))
                else:
                    self.assertEqual(told, ("asks", "one", "ab", 1 + 3 * many))
                    self.assertEqual(run_code(of_rows(*rows), word, "b" * many + "c"), ("wrong", many))

    def test_letters_that_are_chosen(self):
        for tape in (1, 2, 3):
            for letter in "abc":
                for held in "abc":
                    code = of_rows(("set", tape, 0, "q"), ("choose", "two", tape, 0, "abc"), ("unless", ("is", tape, 0, held), 4), ONE)
                    wanted = ("won", "one", 4, 1) if letter == held else ("won", "two", 3, 1)
                    check_gives(self, wanted, run_code, code, "", letter)

    def test_choice_into_no_cell(self):
        code = of_rows(("choose", "one", 4, 0, "ab"), UP, UP, ("choose", "two", 1, 0, "c"), ("unless", ("not", ("inside", 1, 0)), 6), ONE)
        check_gives(self, ("won", "one", 6, 2), run_code, code, "", "bc")
        check_gives(self, ("wrong", 0), run_code, code, "", "c")
        check_gives(self, ("asks", "two", "c", 3), run_code, code, "", "a")

    def test_choices_in_routines(self):
        code = (TAPES, INDEXES, ((("choose", "two", 1, 0, "ab"), UP), (("call", 0), ("choose", "one", 1, 0, "cd"), ("call", 0), ONE)))
        for picks, wanted in (("", ("asks", "two", "ab", 1)), ("a", ("asks", "one", "cd", 3)), ("ac", ("asks", "two", "ab", 5)),
                              ("acb", ("won", "one", 8, 3)), ("acc", ("wrong", 2)), ("aa", ("wrong", 1)), ("bdaq", ("won", "one", 8, 3))):
            check_gives(self, wanted, run_code, code, "", picks)


class Cells(unittest.TestCase):

    def check(self, more, routines, word="", picks=""):
        """Check how many cells a run holds at most besides those of tapes and indexes."""
        code = (TAPES, INDEXES, routines)
        check_gives(self, CELLS + 2 * len(word) + more, cells_held, code, word, picks)
        self.assertEqual(Running(code, word, picks).cells, CELLS + 2 * len(word) + more)

    def test_tapes_and_indexes(self):
        for tapes, indexes, word, wanted in (
                ((INPUT,), (), "", 0), ((INPUT,), (), "abc", 3), ((INPUT, INPUT, ((2, 1),)), (), "abc", 15), ((INPUT, ((0, 7),)), (), "a", 8),
                ((INPUT,), ((), ((0, 9),)), "a", 3), ((INPUT, ()), (), "", 0)):
            for routines in ((), ((),), ((UP,) if indexes else (ONE,),)):
                check_gives(self, wanted, cells_held, (tapes, indexes, routines), word, "")
                check_gives(self, wanted + 4, cells_held, (tapes, indexes, routines), word, "abcd")

    def test_open_loops(self):
        self.check(0, ((UP, ONE),))
        self.check(1, (loop(0, 2),))
        self.check(1, (loop(0, 1, UP),))
        self.check(0, (loop(0, 0, UP),))
        self.check(1, (loop(0, 2, UP) + loop(3, 2, UP),))
        self.check(2, (loop(0, 2, *loop(1, 2, UP)),))
        self.check(1, (loop(0, 2, *loop(1, 0, UP)),))
        self.check(0, (loop(0, 0, *loop(1, 2, UP)),))
        self.check(3, (loop(0, 2, *loop(1, 1, *loop(2, 3))),))
        self.check(1, (loop(0, 2, ("jump", 4), *loop(2, 2)),))
        self.check(0, ((("jump", 3),) + loop(1, 5),))
        self.check(0, ((ONE,) + loop(1, 5),))
        self.check(1, (loop(0, 3, ONE),))
        self.check(2, (loop(0, 3, *(loop(1, 3) + (ONE,))),))

    def test_calls(self):
        self.check(0, ((UP,),))
        self.check(0, ((), (UP,)))
        self.check(0, ((), (("call", 0),)))
        self.check(1, ((UP,), (("call", 0),)))
        self.check(1, ((UP,), (("call", 0), ("call", 0), UP)))
        self.check(2, ((UP,), (("call", 0),), (("call", 1),)))
        self.check(1, ((), (("call", 0),), (("call", 1),)))
        self.check(1, ((ONE,), (("call", 0),)))
        self.check(1, ((UP,), (("call", 0),), (("call", 0), ("call", 0))))
        self.check(0, ((UP,), (("jump", 2), ("call", 0))))
        self.check(3, (loop(0, 2, UP), loop(0, 1, ("call", 0))))
        self.check(2, ((UP,), loop(0, 1, ("call", 0))))
        self.check(1, ((), loop(0, 1, ("call", 0))))
        self.check(2, (loop(0, 1), (("call", 0),)))
        self.check(1, (loop(0, 0), (("call", 0),)))
        self.check(2, (loop(0, 1), loop(0, 2, UP) + (("call", 0),)))
        self.check(4, (loop(0, 1, *loop(1, 1)), loop(0, 2, ("call", 0))))
        self.check(4, (loop(0, 1), loop(0, 0, ("call", 0)) + (("call", 0),), loop(0, 2, ("call", 1))))

    def test_picks(self):
        choose = ("choose", "one", 1, 0, "ab")
        for many in range(5):
            self.check(many, ((choose, choose, ONE),), "", "ab"[:many] + "z" * (many - 2))
            self.check(many + 1, (loop(0, 2, choose),), "", "a" * many)
            self.check(many, ((),), "xy", "q" * many)
        # Asking at the first choice, the run has opened no loop.
        self.check(0, ((choose,) + loop(1, 2),))
        self.check(2, ((choose,) + loop(1, 2),), "", "a")
        self.check(1, (loop(0, 2, choose, *loop(2, 2)),))
        self.check(3, (loop(0, 2, choose, *loop(2, 2)),), "", "b")
        self.check(1, ((choose, UP), (("call", 0),)))
        self.check(1, ((choose,), (("call", 0),)))
        self.check(150, ((choose,), (UP, UP)), "", "a" * 150)

    def test_words(self):
        self.check(1, (loop(0, 2),), "abc")
        rows = (("repeat", INPUT, 1), ("again", 0))
        self.check(0, (rows,))
        self.check(1, (rows,), "q")
        self.check(3, (rows,), "abcd", "zz")


class Drawn(unittest.TestCase):

    def test_drawn_code(self):
        drawn = random.Random(5)
        seen = {"won": 0, "asks": 0, "wrong": 0}
        for code in drawn_code(range(200, 320)):
            word = "".join(drawn.choice("abc") for _ in range(drawn.randrange(4)))
            for picks in sorted(code_tree(code, word))[:12]:
                for after in ("", drawn.choice("abc"), "zz"):
                    wanted = Running(code, word, picks + after)
                    seen[wanted.told[0]] += 1
                    self.assertEqual(run_code(code, word, picks + after), wanted.told)
                    if wanted.told[0] != "wrong":
                        self.assertEqual(cells_held(code, word, picks + after), wanted.cells)
        self.assertGreater(min(seen.values()), 100, seen)

    def test_long_runs(self):
        code = ((INPUT, constant(19000)), (constant(10 ** 12),), (loop(0, 9999, UP) + (ONE,),))
        check_gives(self, ("won", "one", 20000, 0), run_code, code, "ab" * 20, "z" * 150)
        check_gives(self, 40 + 19000 + 1 + 1 + 150, cells_held, code, "ab" * 20, "z" * 150)


class Refusals(unittest.TestCase):

    def test_parameters(self):
        for call in (run_code, cells_held):
            check_parameters(self, call, ["code", "word", "picks"])
            self.assertEqual(call.__module__, runs.__name__)

    def test_no_code(self):
        for call in (run_code, cells_held):
            for wrong in NO_CODE:
                for word, picks in (("", ""), (None, ""), ("", 3), (["a"], "A"), ("", "c")):
                    check_raises(self, BadCode, {"thing": wrong}, call, wrong, word, picks)

    def test_no_words(self):
        for call in (run_code, cells_held):
            for wrong in NO_WORDS:
                for picks in ("", "a", "A", None, "c", wrong):
                    check_raises(self, BadWord, {"thing": wrong}, call, GUESS, wrong, picks)

    def test_no_picks(self):
        for call in (run_code, cells_held):
            for wrong in NO_WORDS:
                check_raises(self, BadPicks, {"thing": wrong}, call, GUESS, "a", wrong)
                check_raises(self, BadPicks, {"thing": wrong}, call, ((INPUT,), (), ()), "a", wrong)

    def test_wrong_picks(self):
        for picks in ("c", "ca", "z", "zz"):
            check_gives(self, ("wrong", 0), run_code, GUESS, "a", picks)
            check_raises(self, BadPicks, {"thing": picks}, cells_held, GUESS, "a", picks)
        check_gives(self, 5, cells_held, GUESS, "a", "ac")

    def test_examples(self):
        run_examples(self, EXAMPLES)
