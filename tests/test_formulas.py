"""Quantified formulas: [12.1] to [12.4], [0.3] and narrowplay/formulas.py."""

import unittest

from narrowplay import formulas
from narrowplay.bounds import cells, choices, clock
from narrowplay.codebounds import code_cells, code_clock
from narrowplay.compiler import compiled
from narrowplay.errors import BadFilling, BadFormula
from narrowplay.faults import is_program
from narrowplay.formulas import denial, formula_program, formula_value, is_at_most, is_formula, matrix_value, value_after
from narrowplay.narrow import narrow
from narrowplay.plans import make_plan, many_plays, plan_holds, winner
from narrowplay.plays import run
from narrowplay.texts import written
from tests.formula_reference import drawn_formulas, fillings, size, truth, values
from tests.helpers import (
    ANY_VALUES, check_gives, check_parameters, check_raises, nested, run_examples, twice_part, with_part, without_part)
from tests.play_reference import value

EXAMPLES = r"""
>>> from narrowplay.formulas import denial, formula_program, formula_value, is_at_most, matrix_value, value_after
>>> from narrowplay.plays import run
>>> SAME = ("ae", ("or", ("and", ("v", 0), ("v", 1)), ("and", ("not", ("v", 0)), ("not", ("v", 1)))))
>>> [matrix_value(SAME, "tt"), matrix_value(SAME, "ft"), formula_value(SAME), value_after(SAME, "t"), formula_value(("ea", SAME[1]))]
[True, False, True, True, False]
>>> [denial(("e", ("v", 0))), formula_value(denial(SAME)), is_at_most(("a", ("v", 0)), ("e", ("v", 0))), run(formula_program(SAME), "x", "ft")[:2], run(formula_program(SAME), "", "t")[:3]]
[('a', ('not', ('v', 0))), False, True, ('won', 'two'), ('asks', 'one', 'ft')]
"""

V0 = ("v", 0)
V1 = ("v", 1)
SAME = ("ae", ("or", ("and", V0, V1), ("and", ("not", V0), ("not", V1))))
DEEP = nested(lambda core: ("not", core), 9, V0)
# The greatest matrix: 40 matrices.
WIDE = ("and", nested(lambda core: ("or", ("v", 7), core), 8, ("v", 6)), ("or", nested(lambda core: ("and", core, ("v", 5)), 8, ("v", 4)),
                                                                      ("not", ("not", ("v", 3)))))

RIGHT = [
    ("e", V0), ("a", V0), ("ee", V0), ("ea", V1), SAME, ("e", ("not", V0)), ("e", ("and", V0, V0)), ("a", ("or", V0, ("not", V0))), ("a", DEEP),
    ("eaeaeaea", WIDE), ("aaaaaaaa", ("v", 7)), ("eeee", ("or", ("v", 3), ("and", ("v", 2), ("not", ("or", V1, V0))))),
]
NEAR = [
    ("", V0), ("", ("v", -1)), ("", ()), ("e", V1), ("e", ("v", 2)), ("e", ("v", -1)), ("e", ("v", True)), ("e", ("v", False)), ("ee", ("v", True)),
    ("e", ("v", "0")), ("e", ("v", None)), ("e", ("v", (0,))), ("e", ("v", [0])), ("e", ("v",)), ("e", ("v", 0, 0)), ("e", ["v", 0]), ("e", 0),
    ("e", "v"), ("e", "v0"), ("e", ()), ("e", None), ("e", (V0,)), ("e", ("V", 0)), ("e", ("w", 0)), ("e", (0, "v")), ("e", ({}, 0)), ("e", ([], 0)),
    ("e", ("not",)), ("e", ("not", V0, V0)), ("e", ("not", None)), ("e", ("not", 0)), ("e", ("not", ["v", 0])), ("e", ("not", ("not",))),
    ("e", ("and", V0)), ("e", ("and",)), ("e", ("and", V0, V0, V0)), ("e", ("and", V0, V1)), ("e", ("and", V1, V0)), ("e", ("and", (V0, V0))),
    ("e", ("or", V0)), ("e", ("or", V0, None)), ("e", ("or", None, V0)), ("e", ("or", V0, V0, V0)), ("e", ("nor", V0, V0)), ("e", ("xor", V0, V0)),
    ("e", ("And", V0, V0)), ("e", ("is", V0, V0)), ("e", (V0, "and", V0)), ("e", (True, V0)), ("e", (None, V0)), ("e", (("not",), V0)),
    ("x", V0), ("E", V0), ("ex", ("v", 0)), ("e ", V0), (" e", V0), ("e\n", V0), ("et", V0), ("f", V0), (("e",), V0), (["e"], V0), (None, V0),
    (1, V0), (True, V0), ("e", V0, V0), ("e",), ("e", V0, ()), ["e", V0], (("e", V0),), (V0, "e"), V0, {"e": V0}, "ev", (V0, V0), ("e", "e"),
    ("e", nested(lambda core: ("not", core), 10, ("v", 1))), ("e", nested(lambda core: ("and", V0, core), 9, ("v", None))),
]
NO_FORMULAS = ANY_VALUES + NEAR
NO_FILLINGS = [thing for thing in ANY_VALUES if thing != ""] + ["e", "a", "F", "T", "ff ", " f", "f\n", "fe", "01", ["f"], ("f", "t"), "tf1", "tt-"]


def parts_changed(formula):
    """Return values in which one part of a formula, at any place, is left out, doubled, a list, or something else."""
    found = []

    def walk(whole, rebuild):
        for other in (None, [], "e", 0, True, list(whole) if isinstance(whole, tuple) else [whole]):
            found.append(rebuild(other))
        if isinstance(whole, tuple):
            found.append(rebuild(whole[::-1]))
            for at, part in enumerate(whole):
                found.append(rebuild(without_part(whole, at)))
                found.append(rebuild(twice_part(whole, at)))
                walk(part, lambda new, at=at: rebuild(with_part(whole, at, new)))

    walk(formula, lambda new: new)
    return found


def is_formula_again(thing):
    """Return whether a value is a formula, by how it is written."""
    if not (isinstance(thing, tuple) and len(thing) == 2 and isinstance(thing[0], str) and set(thing[0]) <= {"e", "a"}):
        return False
    right = {repr(("v", number)) for number in range(len(thing[0]))}

    def is_right(matrix):
        if repr(matrix) in right:
            return True
        if not isinstance(matrix, tuple) or not matrix or not isinstance(matrix[0], str):
            return False
        return {"not": 2, "and": 3, "or": 3}.get(matrix[0]) == len(matrix) and all([is_right(part) for part in matrix[1:]])

    return is_right(thing[1])


class Shapes(unittest.TestCase):

    def test_formulas(self):
        for formula in RIGHT + drawn_formulas(range(100)):
            check_gives(self, True, is_formula, formula)

    def test_no_formulas(self):
        for thing in NO_FORMULAS:
            check_gives(self, False, is_formula, thing)

    def test_changed_parts(self):
        seen = {True: 0, False: 0}
        for formula in RIGHT + drawn_formulas(range(20)):
            for thing in parts_changed(formula):
                wanted = is_formula_again(thing)
                seen[wanted] += 1
                self.assertIs(is_formula(thing), wanted, thing)
        self.assertGreater(seen[True], 0)
        for letters in ("e", "a", "eae", "ee", "aaaa"):
            for matrix in (("v", 0), ("v", 1), ("v", 2), ("v", 3), ("not", ("v", 2)), ("and", ("v", 1), ("or", ("v", 0), ("v", 2)))):
                self.assertIs(is_formula((letters, matrix)), is_formula_again((letters, matrix)))


class Values(unittest.TestCase):

    def test_by_hand(self):
        for formula, wanted in (
                (("e", V0), True), (("a", V0), False), (("e", ("not", V0)), True), (("a", ("or", V0, ("not", V0))), True),
                (("e", ("and", V0, ("not", V0))), False), (SAME, True), (("ea", SAME[1]), False), (("ee", SAME[1]), True), (("aa", SAME[1]), False),
                (("ea", ("or", V0, V1)), True), (("ae", ("and", V0, V1)), False), (("ea", ("or", ("not", V0), V1)), True), (("ea", V1), False),
                (("ae", V1), True), (("a", DEEP), False), (("e", DEEP), True)):
            self.assertEqual(values(formula)[""], wanted, formula)
            check_gives(self, wanted, formula_value, formula)
            check_gives(self, wanted, value_after, formula, "")

    def test_against_a_look_at_all_fillings(self):
        seen = {True: 0, False: 0}
        for formula in RIGHT + drawn_formulas(range(150)):
            found = values(formula)
            seen[found[""]] += 1
            self.assertIs(formula_value(formula), found[""])
            for filling in list(found)[::1 + len(found) // 60]:
                self.assertIs(value_after(formula, filling), found[filling])
                if len(filling) == len(formula[0]):
                    self.assertIs(matrix_value(formula, filling), found[filling])
        self.assertGreater(min(seen.values()), 30, seen)
        check_gives(self, True, matrix_value, SAME, "ff")
        check_gives(self, False, matrix_value, SAME, "tf")

    def test_denials(self):
        for formula in RIGHT + drawn_formulas(range(100)):
            prefix, matrix = denial(formula)
            self.assertEqual(matrix, ("not", formula[1]))
            self.assertEqual([letters for letters in zip(prefix, formula[0])], [("a", "e") if letter == "e" else ("e", "a") for letter in formula[0]])
            self.assertIs(is_formula((prefix, matrix)), True)
            if size(matrix) <= 40:
                self.assertIs(formula_value((prefix, matrix)), not formula_value(formula))
            check_gives(self, (prefix, matrix), denial, formula)

    def test_examples(self):
        run_examples(self, EXAMPLES)


class AtMost(unittest.TestCase):

    def test_by_hand(self):
        both, either = ("and", V0, V1), ("or", V0, V1)
        for formula, other, wanted in (
                (("e", V0), ("e", V0), True), (("a", V0), ("e", V0), True), (("e", V0), ("a", V0), False), (("a", V0), ("a", V0), True),
                (("e", V0), ("e", ("not", V0)), False), (("ee", both), ("ee", either), True), (("ee", either), ("ee", both), False),
                (("ae", both), ("ee", V0), True), (("ea", both), ("ae", either), False), (("aa", both), ("aa", V1), True),
                (("aa", ("and", V0, ("not", V0))), ("aa", ("not", V1)), True), (("ee", V0), ("ee", ("or", V1, ("not", V1))), True),
                (("ee", V0), ("ea", ("or", V1, ("not", V1))), False), (("ee", both), ("ee", ("not", ("or", ("not", V0), ("not", V1)))), True)):
            check_gives(self, wanted, is_at_most, formula, other)

    def test_against_a_look_at_all_fillings(self):
        seen = {True: 0, False: 0}
        for many in (1, 2, 3, 8):
            row = drawn_formulas(range(many * 100, many * 100 + 16), many)
            row += [("a" * many, matrix) for _, matrix in row[:6]] + [("e" * many, ("or", row[0][1], matrix)) for _, matrix in row[:3]]
            for formula in row:
                for other in row:
                    right = [at for at in range(many) if formula[0][at] == "e" and other[0][at] == "a"] == []
                    wanted = right and all(truth(other[1], filling) for filling in fillings(many) if truth(formula[1], filling))
                    seen[wanted] += 1
                    self.assertIs(is_at_most(formula, other), wanted)
                    if wanted and formula_value(formula):
                        self.assertIs(formula_value(other), True)
        self.assertGreater(min(seen.values()), 100, seen)


class Programs(unittest.TestCase):

    def test_all_picks(self):
        seen = {"one": 0, "two": 0}
        for formula in RIGHT + drawn_formulas(range(30)):
            program = formula_program(formula)
            prefix, matrix = formula
            for word in ("", "abcdefghij"):
                for many in range(len(prefix)):
                    for picks in fillings(many)[:3] + fillings(many)[-2:]:
                        player = {"e": "one", "a": "two"}[prefix[many]]
                        self.assertEqual(run(program, word, picks)[:3], ("asks", player, "ft"))
                        self.assertEqual(run(program, word, picks + "a"), ("wrong", many))
                for picks in fillings(len(prefix))[::1 + 2 ** len(prefix) // 40]:
                    for more in ("", "f", "q"):
                        told = run(program, word, picks + more)
                        self.assertEqual(told[:2] + told[3:], ("won", "one" if truth(matrix, picks) else "two", len(prefix)))
                    seen[told[1]] += 1
        self.assertGreater(min(seen.values()), 250, seen)

    def test_winners(self):
        seen = {True: 0, False: 0}
        for formula in [formula for formula in RIGHT if len(formula[0]) <= 6] + drawn_formulas(range(200, 240), 4) + drawn_formulas(range(12), 6):
            program = formula_program(formula)
            true = formula_value(formula)
            seen[true] += 1
            for word in ("", "ftftftftft"):
                player = "one" if true else "two"
                self.assertEqual(winner(program, word), player)
                self.assertEqual(narrow(compiled(program), word)[0], player)
                self.assertEqual(many_plays(program, word), 2 ** len(formula[0]))
                self.assertTrue(plan_holds(program, word, player, make_plan(program, word)))
        self.assertGreater(min(seen.values()), 8, seen)

    def test_limits(self):
        # Matrices with many words of one kind, besides the drawn ones.
        narrow_ones = ("v", 0)
        for _ in range(9):
            narrow_ones = ("not", narrow_ones)
        kinds = [("e" * 6, ("and", ("or", nots(8), nots(8)), ("or", nots(8), nots(8)))), ("a" * 8, WIDE), ("e", narrow_ones),
                 ("ea" * 4, nested(lambda core: ("and", core, V0), 9, V1)), ("ea" * 4, nested(lambda core: ("or", V0, core), 9, V1))]
        for formula in kinds + RIGHT + drawn_formulas(range(150)):
            program = formula_program(formula)
            self.assertTrue(is_program(program))
            tapes, indexes, procedures = program
            self.assertLessEqual(max(len(tapes), len(indexes), len(procedures)), 12)
            many = len(formula[0]) + size(formula[1])
            self.assertLessEqual(many_commands(program), 12 * many + 12)
            self.assertLessEqual(len(written(program)), 40000)
            self.assertLessEqual(max(len(line) - len(line.lstrip(" ")) for line in written(program).split("\n")), 30)
            self.assertEqual(value(choices(program), 10), len(formula[0]))
            for length in (0, 10):
                self.assertLessEqual(value(clock(program), length), 20000)
                self.assertLessEqual(value(cells(program), length), 2000)
                code = compiled(program)
                self.assertLessEqual(value(code_clock(code), length), 3000)
                self.assertLessEqual(value(code_cells(code), length), 20000)
                if len(formula[0]) <= 6:
                    picked = 2 ** (len(formula[0]) + 1) - 1
                    self.assertLessEqual(picked * value(clock(program), length), 200000)
                    self.assertLessEqual(picked * value(code_clock(code), length), 50000)
            check_gives(self, program, formula_program, formula)


def nots(many):
    return nested(lambda core: ("not", core), many, V0)


def many_commands(program):
    """Return how many commands a program has."""
    def many(commands):
        return sum(1 + many(command[2]) + many(command[3]) if command[0] == "if" else 1 + many(command[2]) if command[0] == "repeat" else 1
                   for command in commands)
    return sum(many(commands) for _, commands in program[2])


class Refusals(unittest.TestCase):

    def test_parameters(self):
        for call, names in (
                (is_formula, ["thing"]), (matrix_value, ["formula", "filling"]), (value_after, ["formula", "filling"]), (denial, ["formula"]),
                (formula_value, ["formula"]), (formula_program, ["formula"]), (is_at_most, ["formula", "other"])):
            check_parameters(self, call, names)
            self.assertEqual(call.__module__, formulas.__name__)

    def test_no_formulas(self):
        for wrong in NO_FORMULAS:
            for call in (formula_value, denial, formula_program):
                check_raises(self, BadFormula, {"thing": wrong}, call, wrong)
            for call in (matrix_value, value_after):
                for filling in ("f", "", None, "x"):
                    check_raises(self, BadFormula, {"thing": wrong}, call, wrong, filling)
            for other in (SAME, ("e", V0), None):
                check_raises(self, BadFormula, {"thing": wrong}, is_at_most, wrong, other)
            check_raises(self, BadFormula, {"thing": wrong}, is_at_most, SAME, wrong)

    def test_no_fillings(self):
        for wrong in NO_FILLINGS:
            check_raises(self, BadFilling, {"thing": wrong}, matrix_value, SAME, wrong)
            check_raises(self, BadFilling, {"thing": wrong}, value_after, SAME, wrong)
        for formula in RIGHT:
            many = len(formula[0])
            for length in range(many + 3):
                filling = "ft" * many
                filling = filling[:length]
                if length != many:
                    check_raises(self, BadFilling, {"thing": filling}, matrix_value, formula, filling)
                if length > many:
                    check_raises(self, BadFilling, {"thing": filling}, value_after, formula, filling)
                else:
                    self.assertIn(value_after(formula, filling), (True, False))

    def test_other_number_of_variables(self):
        for formula in RIGHT:
            for other in RIGHT:
                if len(formula[0]) != len(other[0]):
                    check_raises(self, BadFormula, {"thing": other}, is_at_most, formula, other)
