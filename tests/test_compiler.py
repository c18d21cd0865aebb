"""The compiler: [9.1] to [9.3] and narrowplay/compiler.py."""

import itertools
import unittest

from narrowplay import compiler
from narrowplay.bounds import cells, choices, clock
from narrowplay.code import is_accepted, judge_code
from narrowplay.codebounds import code_cells, code_choices, code_clock
from narrowplay.compiler import code_map, compiled, index_number, tape_number
from narrowplay.errors import BadProgram
from narrowplay.faults import is_program
from narrowplay.narrow import code_plan, code_plan_holds, code_plays, narrow
from narrowplay.plans import make_plan, many_plays, plan_holds, winner
from narrowplay.plays import run, state_after
from narrowplay.runs import run_code
from narrowplay.texts import read
from tests import compile_reference
from tests.compile_reference import Renaming
from tests.drawn import drawn_programs
from tests.helpers import ANY_VALUES, check_gives, check_parameters, check_raises, run_examples
from tests.play_reference import numbers, program_tree, value, winners
from tests.test_plays import NO_PROGRAMS

EXAMPLES = r"""
>>> from narrowplay.compiler import code_map, compiled, tape_number
>>> GUESS = ((("mine", ((0, 1),)),), (("i", ((0, 1),)),), (("main", (("repeat", ((0, 2),), (("up", "i"),)), ("zero", "i"), ("choose", "two", "mine", "i", "ab"), ("if", ("equal", "input", "i", "mine", "i"), (("wins", "one"),), (("clear", "mine", "i"),)))),))
>>> compiled(GUESS)
((((1, 1),), ((0, 1),)), (((0, 1),),), ((('repeat', ((0, 2),), 2), ('up', 0), ('again', 0), ('zero', 0), ('choose', 'two', 1, 0, 'ab'), ('unless', ('equal', 0, 0, 1, 0), 8), ('wins', 'one'), ('jump', 9), ('clear', 1, 0)),))
>>> [code_map(GUESS), tape_number(GUESS, "mine"), tape_number(GUESS, "input")]
[(((0,), (0, 2, 0), (0,), (1,), (2,), (3,), (3, 2, 0), (3,), (3, 3, 0)),), 1, 0]
"""

HEAD = "tape t size 3\ntape u size n + 1\nindex i to 2\nindex j to n\nprocedure p\nend\nprocedure q\n  up j\nend\nprocedure main\n"
INPUT = ((1, 1),)
SIZES = (INPUT, ((0, 3),), ((0, 1), (1, 1)))
BOUNDS = (((0, 2),), INPUT)
# Lines of a main procedure behind HEAD, its rows, and the paths from which they come.
BLOCKS = [
    ("", (), ()),
    ("t[i] = a", (("set", 1, 0, "a"),), ((0,),)),
    ("u[j] = input[i]", (("copy", 2, 1, 0, 0),), ((0,),)),
    ("t[j] = empty", (("clear", 1, 1),), ((0,),)),
    ("j = 0", (("zero", 1),), ((0,),)),
    ("up i", (("up", 0),), ((0,),)),
    ("down j", (("down", 1),), ((0,),)),
    ("j = i", (("same", 1, 0),), ((0,),)),
    ("two chooses u[i] from abz", (("choose", "two", 2, 0, "abz"),), ((0,),)),
    ("one wins", (("wins", "one"),), ((0,),)),
    ("do p", (("call", 0),), ((0,),)),
    ("do q", (("call", 1),), ((0,),)),
    ("if input[j] is x\nend", (("unless", ("is", 0, 1, "x"), 1),), ((0,),)),
    ("if t[i] equals input[j]\nelse\nend", (("unless", ("equal", 1, 0, 0, 1), 1),), ((0,),)),
    ("if u[i] empty\nup i\nup j\nend", (("unless", ("empty", 2, 0), 3), ("up", 0), ("up", 1)), ((0,), (0, 2, 0), (0, 2, 1))),
    ("if u has j\nelse\nup i\nup j\nend", (("unless", ("inside", 2, 1), 2), ("jump", 4), ("up", 0), ("up", 1)),
     ((0,), (0,), (0, 3, 0), (0, 3, 1))),
    ("if not not i = j\nup i\nelse\nup j\nend\ni = 0",
     (("unless", ("not", ("not", ("at", 0, 1))), 3), ("up", 0), ("jump", 4), ("up", 1), ("zero", 0)),
     ((0,), (0, 2, 0), (0,), (0, 3, 0), (1,))),
    ("repeat 3*n\nend", (("repeat", ((1, 3),), 1), ("again", 0)), ((0,), (0,))),
    ("repeat 0\nup i\nend", (("repeat", (), 2), ("up", 0), ("again", 0)), ((0,), (0, 2, 0), (0,))),
    ("up i\nrepeat n\nrepeat 2\ndown i\nend\nif i = i\nend\nend",
     (("up", 0), ("repeat", INPUT, 6), ("repeat", ((0, 2),), 4), ("down", 0), ("again", 2), ("unless", ("at", 0, 0), 6), ("again", 1)),
     ((0,), (1,), (1, 2, 0), (1, 2, 0, 2, 0), (1, 2, 0), (1, 2, 1), (1,))),
    ("repeat n\nif i = i\nup i\nelse\nup j\nend\nend\nif i = j\nrepeat n\nend\nend",
     (("repeat", INPUT, 5), ("unless", ("at", 0, 0), 4), ("up", 0), ("jump", 5), ("up", 1), ("again", 0), ("unless", ("at", 0, 1), 9),
      ("repeat", INPUT, 8), ("again", 7)),
     ((0,), (0, 2, 0), (0, 2, 0, 2, 0), (0, 2, 0), (0, 2, 0, 3, 0), (0,), (1,), (1, 2, 0), (1, 2, 0))),
]
LEAVES = [
    (), (("up", "i"),), (("set", "t", "i", "a"), ("choose", "one", "u", "j", "ab")), (("do", "q"), ("clear", "u", "i"), ("do", "p")),
    (("wins", "two"), ("copy", "t", "j", "input", "i")),
]
WRAPS = [
    lambda block: (("if", ("is", "t", "i", "a"), block, ()),),
    lambda block: (("if", ("not", ("at", "i", "j")), (), block),),
    lambda block: (("if", ("empty", "u", "j"), block, (("down", "j"),)), ("zero", "i")),
    lambda block: (("up", "i"), ("if", ("inside", "input", "j"), (("up", "j"),), block)),
    lambda block: (("repeat", ((0, 2),), block),),
    lambda block: (("zero", "j"), ("repeat", ((1, 1),), block + (("same", "i", "j"),)), ("up", "j")),
]


def nests():
    """Return programs with each kind of command within each one, three deep."""
    tapes, indexes, procedures = read(HEAD + "end")
    found = []
    for wraps in itertools.product(WRAPS, repeat=3):
        for leaf in LEAVES:
            block = wraps[0](wraps[1](wraps[2](leaf)))
            found.append((tapes, indexes, procedures[:2] + (("main", block),)))
    return found


def at_most(poly, other, times):
    """Return whether each coefficient is at most so many times that of another polynomial."""
    return all(coefficient <= times * dict(other).get(exponent, 0) for exponent, coefficient in poly)


def same_end(told, other):
    """Return whether a run of code comes to the same as a play, in at most twice as many steps."""
    steps, others = [{"won": 2, "asks": 3, "wrong": None}[each[0]] for each in (told, other)]
    if steps is None or others is None or steps != others:
        return told == other
    return told[:steps] + told[steps + 1:] == other[:steps] + other[steps + 1:] and other[steps] <= told[steps] <= 2 * other[steps]


class Rows(unittest.TestCase):

    def test_blocks(self):
        for lines, rows, paths in BLOCKS:
            program = read(HEAD + lines + "\nend")
            check_gives(self, (SIZES, BOUNDS, ((), (("up", 1),), rows)), compiled, program)
            check_gives(self, ((), ((0,),), paths), code_map, program)

    def test_programs_without_much(self):
        check_gives(self, ((INPUT,), (), ()), compiled, ((), (), ()))
        check_gives(self, (), code_map, ((), (), ()))
        check_gives(self, ((INPUT,), (), ((),)), compiled, ((), (), (("p", ()),)))
        check_gives(self, ((),), code_map, ((), (), (("p", ()),)))
        check_gives(self, ((INPUT, ()), ((), INPUT), ()), compiled, ((("t", ()),), (("i", ()), ("j", INPUT)), ()))

    def test_nests(self):
        for program in nests():
            code, paths = compile_reference.compiled(program)
            self.assertEqual(compiled(program), code)
            self.assertEqual(code_map(program), paths)
            self.assertEqual(judge_code(code), ("accepted",))

    def test_procedures_that_do_earlier_ones(self):
        procedures = (("a", ()), ("input", (("do", "a"),)), ("t", (("do", "input"), ("do", "a"))), ("b", (("repeat", INPUT, (("do", "t"),)),)))
        program = ((("t", INPUT),), (("input", INPUT),), procedures)
        rows = ((), (("call", 0),), (("call", 1), ("call", 0)), (("repeat", INPUT, 2), ("call", 2), ("again", 0)))
        check_gives(self, ((INPUT, INPUT), (INPUT,), rows), compiled, program)
        check_gives(self, ((), ((0,),), ((0,), (1,)), ((0,), (0, 2, 0), (0,))), code_map, program)

    def test_limits(self):
        tapes = tuple((f"t{at}", ((0, at + 1),)) for at in range(12))
        indexes = tuple((f"i{at}", ((0, at),) if at else ()) for at in range(12))
        block = tuple(("copy", f"t{at % 12}", f"i{at % 7}", f"t{at % 5}", f"i{at % 12}") for at in range(45))
        for _ in range(5):
            block = (("repeat", ((0, 1), (1, 1)), block),)
        procedures = tuple((f"p{at}", block if at == 0 else (("do", f"p{at - 1}"),)) for at in range(12))
        program = (tapes, indexes, procedures)
        code = compiled(program)
        self.assertEqual(code, compile_reference.compiled(program)[0])
        self.assertEqual(code[2][0][5], ("copy", 1, 0, 1, 0))
        self.assertEqual(code[2][0][5 + 44], ("copy", 9, 2, 5, 8))
        self.assertTrue(is_accepted(code))

    def test_drawn_programs(self):
        for program in drawn_programs(range(300)):
            self.assertEqual((compiled(program), code_map(program)), compile_reference.compiled(program))

    def test_map_leads_to_commands(self):
        sorts = {"unless": "if", "jump": "if", "repeat": "repeat", "again": "repeat", "call": "do"}
        for program in drawn_programs(range(100)) + nests()[::7]:
            for (_, commands), rows, paths in zip(program[2], compiled(program)[2], code_map(program)):
                self.assertEqual(len(rows), len(paths))
                for row, path in zip(rows, paths):
                    command = commands
                    for at in path:
                        command = command[at]
                    self.assertEqual(command[0], sorts.get(row[0], row[0]))

    def test_examples(self):
        run_examples(self, EXAMPLES)


class Names(unittest.TestCase):

    def test_numbers(self):
        program = ((("t", ()), ("j", ()), ("u", ())), (("input", ()), ("t", ()), ("i", ())), (("p", ()), ("v", ())))
        for name, tape, index in (("input", 0, 0), ("t", 1, 1), ("j", 2, None), ("u", 3, None), ("i", None, 2), ("p", None, None),
                                  ("v", None, None), ("T", None, None), ("", None, None), ("n", None, None), ("tu", None, None)):
            check_gives(self, tape, tape_number, program, name)
            check_gives(self, index, index_number, program, name)
        check_gives(self, 0, tape_number, ((), (), ()), "input")
        check_gives(self, None, index_number, ((), (), ()), "input")

    def test_any_value(self):
        program = ((("t", ()), ("a", ())), (("i", ()), ("z", ())), ())
        values = [thing for thing in ANY_VALUES if thing not in ("a", "z")]
        for thing in values + [["t"], ("t",), {"t": 1}, [["input"]], "input ", "INPUT", b"input", ("input",), ["input"], 0, 1, True, False]:
            check_gives(self, None, tape_number, program, thing)
            check_gives(self, None, index_number, program, thing)


def wrong_ends(picks):
    """Return picks that are exact, too long, too short, and wrong at each place."""
    found = [picks, picks + "a", picks + "zz", picks[:-1], picks[:len(picks) // 2], ""]
    return found + [picks[:at] + "q" + picks[at + 1:] for at in range(len(picks))]


class Kept(unittest.TestCase):

    def test_bounds(self):
        for program in drawn_programs(range(250)) + nests()[::3]:
            code = compiled(program)
            self.assertTrue(at_most(code_clock(code), clock(program), 2), program)
            self.assertEqual(code_choices(code), choices(program))
            self.assertTrue(at_most(code_cells(code), cells(program), 1), program)

    def test_plays(self):
        ends = {"won": 0, "asks": 0, "wrong": 0}
        for program in drawn_programs(range(200)) + nests()[::17]:
            code = compiled(program)
            for word in ("", "ab", "cab"):
                if numbers(program, len(word))[1] > 5:
                    continue
                for picks in sorted(program_tree(program, word))[::3]:
                    for given in wrong_ends(picks):
                        told = run_code(code, word, given)
                        self.assertTrue(same_end(told, run(program, word, given)), (program, word, given))
                        ends[told[0]] += 1
        self.assertGreater(min(ends.values()), 200, ends)

    def test_winners_and_plans(self):
        wins = {"one": 0, "two": 0}
        for program in drawn_programs(range(600, 900)):
            code = compiled(program)
            for word in ("", "ab"):
                if numbers(program, len(word))[1] > 5:
                    continue
                found = program_tree(program, word)
                if len(found) < 2 or len(found) > 120:
                    continue
                player = winner(program, word)
                wins[player] += 1
                self.assertEqual(narrow(code, word)[0], player)
                self.assertEqual(len(code_plays(code, word)), many_plays(program, word))
                self.assertEqual(code_plays(code, word), tuple(
                    (picks, found[picks][1]) for picks in sorted(found) if found[picks][0] == "won"))
                for judged in ("one", "two"):
                    self.assertIs(code_plan_holds(code, word, judged, make_plan(program, word)), judged == player)
                    self.assertIs(plan_holds(program, word, judged, code_plan(code, word)[1]), judged == player)
        self.assertGreater(min(wins.values()), 20, wins)


class Renamed(unittest.TestCase):

    def test_plays(self):
        for seed, program in enumerate(drawn_programs(range(250))):
            other = Renaming(program, seed)
            self.assertTrue(is_program(other.program))
            for word in ("", "abc", "ca"):
                if numbers(program, len(word))[1] > 5:
                    continue
                for picks in sorted(program_tree(program, word))[::5]:
                    told = run(program, word, picks)
                    again = run(other.program, other.word(word), other.word(picks))
                    if told[0] == "asks":
                        told = ("asks", told[1], "".join(sorted(other.word(told[2]))), told[3])
                    self.assertEqual(again, told)
                    self.same_states(program, other, word, picks)

    def same_states(self, program, other, word, picks):
        tapes, indexes = state_after(program, word, picks)
        others, numbered = state_after(other.program, other.word(word), other.word(picks))
        held = {name: told for (name, _), told in zip(other.program[0], others)}
        for (name, _), told in zip(program[0], tapes):
            self.assertEqual(held[other.tapes[name]], tuple(letter and other.letters[letter] for letter in told))
        held = {name: number for (name, _), number in zip(other.program[1], numbered)}
        for (name, _), number in zip(program[1], indexes):
            self.assertEqual(held[other.indexes[name]], number)

    def test_bounds_and_winners(self):
        wins = {"one": 0, "two": 0}
        for seed, program in enumerate(drawn_programs(range(250))):
            other = Renaming(program, seed)
            self.assertEqual([call(other.program) for call in (clock, choices, cells)], [call(program) for call in (clock, choices, cells)])
            for word in ("", "ab"):
                if numbers(program, len(word))[1] > 5:
                    continue
                found = program_tree(program, word)
                if len(found) > 100:
                    continue
                player = winners(found)[""]
                wins[player] += 1
                self.assertEqual(winner(other.program, other.word(word)), player)
                self.assertEqual(many_plays(other.program, other.word(word)), sum(told[0] == "won" for told in found.values()))
                self.assertEqual(narrow(compiled(other.program), other.word(word))[0], player)
        self.assertGreater(min(wins.values()), 20, wins)

    def test_code(self):
        for seed, program in enumerate(drawn_programs(range(120))):
            other = Renaming(program, seed)
            self.assertEqual((compiled(other.program), code_map(other.program)), compile_reference.compiled(other.program))
            self.assertEqual(code_map(other.program), code_map(program))
            self.assertEqual(tape_number(other.program, "input"), 0)
            for at, (name, _) in enumerate(other.program[0]):
                self.assertEqual(tape_number(other.program, name), at + 1)
            for at, (name, _) in enumerate(other.program[1]):
                self.assertEqual(index_number(other.program, name), at)
            for length in (0, 3):
                self.assertEqual([value(call(compiled(other.program)), length) for call in (code_clock, code_choices, code_cells)],
                                 [value(call(compiled(program)), length) for call in (code_clock, code_choices, code_cells)])


CALLS = [(compiled, ()), (code_map, ()), (tape_number, ("input",)), (tape_number, (None,)), (index_number, ("i",)), (index_number, ([],))]


class Refusals(unittest.TestCase):

    def test_parameters(self):
        for call, names in ((compiled, ["program"]), (code_map, ["program"]), (tape_number, ["program", "name"]),
                            (index_number, ["program", "name"])):
            check_parameters(self, call, names)
            self.assertEqual(call.__module__, compiler.__name__)

    def test_no_programs(self):
        for call, more in CALLS:
            for wrong in NO_PROGRAMS:
                check_raises(self, BadProgram, {"thing": wrong}, call, wrong, *more)
