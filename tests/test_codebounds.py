"""Bounds off the rows of code: [7.4] and narrowplay/codebounds.py."""

import unittest

from narrowplay import codebounds
from narrowplay.codebounds import code_cells, code_choices, code_clock, code_depth
from narrowplay.errors import BadCode
from narrowplay.polys import is_poly, poly_text, value_at
from narrowplay.runs import cells_held, run_code
from tests import code_reference
from tests.code_reference import Running, code_tree
from tests.drawn import drawn_code
from tests.helpers import ANY_VALUES, check_gives, check_parameters, check_raises
from tests.play_reference import value

INPUT = ((1, 1),)
N1 = ((0, 1), (1, 1))
UP = ("up", 0)
PICK = ("choose", "two", 1, 0, "ab")
CALLS = (code_clock, code_choices, code_cells, code_depth)

# Routines, and the clock, the choices and the depth of the last one.
ROUTINES = [
    ((), "0", "0", 0),
    (((),), "0", "0", 0),
    (((UP,), ()), "0", "0", 0),
    (((UP,),), "1", "0", 0),
    (((UP, PICK, UP, ("wins", "one")),), "4", "1", 0),
    (((UP,) * 3 + (PICK,) * 2, (UP,)), "1", "0", 0),
    (((("jump", 2), UP, UP),), "3", "0", 0),
    (((("unless", ("at", 0, 0), 3), PICK, PICK),), "3", "2", 0),
    (((("jump", 3), PICK, PICK),), "3", "2", 0),
    (((("repeat", INPUT, 1), ("again", 0)),), "n + 1", "0", 1),
    (((("repeat", (), 1), ("again", 0)),), "1", "0", 1),
    (((("repeat", ((0, 3),), 2), PICK, ("again", 0)),), "7", "3", 1),
    (((("repeat", (), 2), PICK, ("again", 0), PICK),), "2", "1", 1),
    (((("repeat", ((0, 5), (1, 2), (2, 3)), 3), PICK, UP, ("again", 0)),), "9*n^2 + 6*n + 16", "3*n^2 + 2*n + 5", 1),
    (((("repeat", INPUT, 4), UP, ("repeat", N1, 3), ("again", 2), ("again", 0)),), "n^2 + 4*n + 1", "0", 2),
    (((("repeat", INPUT, 5), ("repeat", N1, 4), PICK, UP, ("again", 1), ("again", 0), PICK),), "3*n^2 + 5*n + 2", "n^2 + n + 1", 2),
    (((("repeat", INPUT, 2), UP, ("again", 0), ("repeat", N1, 5), PICK, ("again", 3)),), "4*n + 4", "n + 1", 1),
    (((("repeat", INPUT, 3), ("jump", 3), PICK, ("again", 0)),), "3*n + 1", "n", 1),
    (((("repeat", (), 4), ("repeat", INPUT, 3), PICK, ("again", 1), ("again", 0)),), "1", "0", 2),
    (((), (("call", 0),)), "1", "0", 1),
    (((UP,), (("call", 0),)), "2", "0", 1),
    (((PICK, UP), (("call", 0), UP, ("call", 0))), "7", "2", 1),
    (((PICK, UP), (("call", 0),), (("call", 1), ("call", 0))), "7", "2", 2),
    (((PICK,), (("call", 0),), (("call", 0), ("call", 1), ("call", 0))), "7", "3", 2),
    (((PICK,), (("repeat", INPUT, 2), ("call", 0), ("again", 0))), "3*n + 1", "n", 2),
    (((("repeat", N1, 2), PICK, ("again", 0)), (("repeat", INPUT, 2), ("call", 0), ("again", 0))), "2*n^2 + 5*n + 1", "n^2 + n", 3),
    (((("repeat", N1, 2), PICK, ("again", 0)), (("call", 0), ("repeat", INPUT, 3), UP, ("again", 1))), "4*n + 5", "n + 1", 2),
    (((), (("repeat", INPUT, 2), ("call", 0), ("again", 0))), "2*n + 1", "0", 2),
    (((PICK,), (("repeat", (), 2), ("call", 0), ("again", 0), ("call", 0))), "3", "1", 2),
    (((("repeat", INPUT, 3), ("repeat", INPUT, 2), ("again", 1), ("again", 0)), (("call", 0),), (UP, ("call", 1))), "n^2 + 2*n + 4", "0", 4),
]


class Bounds(unittest.TestCase):

    def test_routines(self):
        for routines, steps, picks, depth in ROUTINES:
            code = ((INPUT, ((0, 2),)), (INPUT,), routines)
            self.assertEqual((poly_text(code_clock(code)), poly_text(code_choices(code))), (steps, picks), routines)
            check_gives(self, code_clock(code), code_clock, code)
            check_gives(self, code_choices(code), code_choices, code)
            check_gives(self, depth, code_depth, code)

    def test_cells(self):
        loop = (("repeat", INPUT, 2), PICK, ("again", 0))
        for tapes, indexes, routines, wanted in (
                ((INPUT,), (), (), "n"), ((INPUT, INPUT), (), (), "2*n"), ((INPUT, ((0, 2),), ((2, 3),)), (), (), "3*n^2 + n + 2"),
                ((INPUT, ()), (), (), "n"), ((INPUT,), (((0, 7),),), (), "n + 1"), ((INPUT,), (((5, 7),), (), ()), (), "n + 3"),
                ((INPUT,), (), ((), ()), "n"), ((INPUT,), ((),), ((UP,),), "n + 1"), ((INPUT, N1), ((),), ((PICK,),), "2*n + 3"),
                ((INPUT, ()), ((),), (loop,), "2*n + 2"), ((INPUT, ()), ((),), (loop, ()), "n + 1"),
                ((INPUT, ()), ((), ()), (loop, (("call", 0), ("call", 0))), "3*n + 4"),
                ((INPUT, ((1, 2),)), ((),), (loop, (("call", 0),), (("repeat", INPUT, 2), ("call", 1), ("again", 0))), "n^2 + 3*n + 5")):
            code = (tapes, indexes, routines)
            self.assertEqual(poly_text(code_cells(code)), wanted, code)
            check_gives(self, code_cells(code), code_cells, code)

    def test_nested_loops(self):
        rows = [UP]
        for _ in range(5):
            rows = [("repeat", INPUT, len(rows) + 1)] + [
                (row[0], row[1], row[2] + 1) if row[0] == "repeat" else ("again", row[1] + 1) if row[0] == "again" else row for row in rows
            ] + [("again", 0)]
        code = ((INPUT,), (INPUT,), (tuple(rows),))
        check_gives(self, ((0, 1), (1, 2), (2, 2), (3, 2), (4, 2), (5, 2)), code_clock, code)
        check_gives(self, 5, code_depth, code)
        check_gives(self, ((0, 6), (1, 1)), code_cells, code)

    def test_drawn_code(self):
        for code in drawn_code(range(150)):
            for call in CALLS[:3]:
                self.assertTrue(is_poly(call(code)))
            for length in (0, 1, 2, 5, 40):
                told = (value_at(code_clock(code), length), value_at(code_choices(code), length), code_depth(code),
                        value_at(code_cells(code), length))
                self.assertEqual(told, code_reference.bounds(code, length), code)

    def test_runs_keep_them(self):
        reached = {"steps": 0, "taken": 0, "cells": 0}
        for code in drawn_code(range(400, 500)):
            for word in ("", "b", "cab"):
                steps, picks, most = [value(call(code), len(word)) for call in CALLS[:3]]
                if picks > 5:
                    continue
                for given in sorted(code_tree(code, word))[:8]:
                    told = run_code(code, word, given)
                    ran = told[2] if told[0] == "won" else told[3]
                    taken = Running(code, word, given).taken
                    self.assertLessEqual(ran, steps)
                    self.assertLessEqual(taken, picks)
                    self.assertLessEqual(cells_held(code, word, given), most)
                    reached["steps"] += ran == steps
                    reached["taken"] += taken == picks
                    reached["cells"] += cells_held(code, word, given) == most
        self.assertGreater(min(reached.values()), 20, reached)


PICKS = ((INPUT, INPUT), (INPUT,), ((("repeat", INPUT, 3), ("choose", "one", 1, 0, "ab"), UP, ("again", 0), ("wins", "one")),))
# Values that are no code, and code that is not accepted.
NO_CODE = ANY_VALUES + [
    list(PICKS), (PICKS,), PICKS[:2], PICKS[::-1], (PICKS[0], PICKS[1], list(PICKS[2])), ((INPUT,), (), ((("up", "i"),),)),
    (PICKS[0], (), PICKS[2]), (PICKS[0][:1], PICKS[1], PICKS[2]), (PICKS[0], PICKS[1], PICKS[2] + ((("call", 1),),)),
    ((((0, 1),), INPUT), PICKS[1], PICKS[2]), (PICKS[0], PICKS[1], ((("set", 0, 0, "a"),),)), (PICKS[0], PICKS[1], ((("again", 0),),)),
    (PICKS[0], PICKS[1], ((("jump", 0),),)), (PICKS[0], PICKS[1], ((("jump", True),),)), (PICKS[0], PICKS[1], PICKS[2][0]),
    (PICKS[0], PICKS[1], ((), (("repeat", (), 1),), ())),
]


class Refusals(unittest.TestCase):

    def test_parameters(self):
        for call in CALLS:
            check_parameters(self, call, ["code"])
            self.assertEqual(call.__module__, codebounds.__name__)

    def test_no_code(self):
        for call in CALLS:
            for wrong in NO_CODE:
                check_raises(self, BadCode, {"thing": wrong}, call, wrong)
