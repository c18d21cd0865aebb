"""Bounds of programs: [6.1], [6.2] and narrowplay/bounds.py."""

import unittest

from narrowplay import bounds
from narrowplay.bounds import cells, choices, clock
from narrowplay.errors import BadProgram
from narrowplay.plays import run
from narrowplay.polys import is_poly, poly_text, value_at
from narrowplay.texts import read
from tests.drawn import drawn_programs
from tests.helpers import check_gives, check_parameters, check_raises, run_examples
from tests.play_reference import Playing, numbers, program_tree
from tests.test_plays import NO_PROGRAMS

EXAMPLES = r"""
>>> from narrowplay.bounds import cells, choices, clock
>>> from narrowplay.texts import read
>>> P = read('tape t size n + 1\nindex i to n\nprocedure turn\n  one chooses t[i] from ab\n  up i\nend\nprocedure main\n  repeat n\n    do turn\n  end\n  if t[i] empty\n    one wins\n  end\nend')
>>> [clock(P), choices(P), cells(P)]
[((0, 3), (1, 4)), ((1, 1),), ((0, 5), (1, 3))]
"""

PICK = "one chooses t[i] from ab\n"
# Lines of a main procedure behind HEAD, their clock and their choices.
HEAD = "tape t size 1\nindex i to 9\nprocedure u\nup i\nend\nprocedure c\nrepeat n\n" + PICK + "end\nend\nprocedure e\nend\nprocedure main\n"
BLOCKS = [
    ("", "0", "0"), ("up i\n", "1", "0"), ("down i\n", "1", "0"), ("i = 0\n", "1", "0"), ("i = i\n", "1", "0"), ("t[i] = a\n", "1", "0"),
    ("t[i] = t[i]\n", "1", "0"), ("t[i] = empty\n", "1", "0"), ("one wins\n", "1", "0"), ("two wins\n", "1", "0"), (PICK, "1", "1"),
    (PICK.replace("one", "two"), "1", "1"), ("up i\nup i\nup i\n", "3", "0"), (PICK * 4, "4", "4"), ("one wins\n" + PICK, "2", "1"),
    ("if i = i\nend\n", "1", "0"), ("if i = i\nup i\nend\n", "2", "0"), ("if i = i\nelse\nup i\nup i\nend\n", "3", "0"),
    ("if not not i = i\n" + PICK + "up i\nelse\n" + PICK * 2 + "end\n", "5", "3"),
    ("repeat 0\nend\n", "1", "0"), ("repeat 0\n" + PICK * 3 + "end\n", "1", "0"), ("repeat 1\nend\n", "2", "0"),
    ("repeat 3\nend\n", "4", "0"), ("repeat n\nend\n", "n + 1", "0"), ("repeat 3\n" + PICK + "end\n", "7", "3"),
    ("repeat n\nup i\nend\n", "2*n + 1", "0"), ("repeat n^2 + 2*n + 3\n" + PICK * 2 + "end\n", "3*n^2 + 6*n + 10", "2*n^2 + 4*n + 6"),
    ("repeat n\nrepeat n\n" + PICK + "end\nend\n", "2*n^2 + 2*n + 1", "n^2"), ("repeat n\nrepeat 0\n" + PICK + "end\nend\n", "2*n + 1", "0"),
    ("repeat 0\nrepeat n\n" + PICK + "end\nend\n", "1", "0"), ("repeat n + 1\nrepeat n + 1\nend\nend\n", "n^2 + 4*n + 4", "0"),
    ("repeat 2*n\nif i = i\n" + PICK + "else\nup i\nend\nend\n", "8*n + 1", "2*n"),
    ("if i = i\nrepeat n\n" + PICK + "end\nelse\nrepeat n^2\n" + PICK + "end\nend\n", "2*n^2 + 2*n + 3", "n^2 + n"),
    ("do u\n", "2", "0"), ("do e\n", "1", "0"), ("do c\n", "2*n + 2", "n"), ("do c\ndo c\ndo u\n", "4*n + 6", "2*n"),
    ("repeat n\ndo c\nend\n", "2*n^2 + 3*n + 1", "n^2"), ("if i = i\ndo c\nelse\ndo u\nend\n", "2*n + 5", "n"),
    ("repeat 2\ndo e\nend\n", "5", "0"),
]


class Bounds(unittest.TestCase):

    def test_blocks(self):
        for lines, steps, picks in BLOCKS:
            program = read(HEAD + lines + "end")
            self.assertEqual((poly_text(clock(program)), poly_text(choices(program))), (steps, picks), lines)
            check_gives(self, clock(program), clock, program)
            check_gives(self, choices(program), choices, program)

    def test_main_is_the_last_one(self):
        program = read("tape t size 1\nindex i to 1\nprocedure main\nrepeat n\n" + PICK + "end\nend\nprocedure last\nup i\nend")
        check_gives(self, ((0, 1),), clock, program)
        check_gives(self, (), choices, program)
        check_gives(self, ((0, 5), (1, 1)), cells, program)

    def test_without_procedures(self):
        for program in (((), (), ()), ((("t", ()),), (), ()), ((("t", ((0, 3),)),), (("i", ()), ("j", ((5, 5),))), ())):
            check_gives(self, (), clock, program)
            check_gives(self, (), choices, program)
        check_gives(self, ((1, 1),), cells, ((), (), ()))
        check_gives(self, ((0, 5), (1, 1)), cells, ((("t", ((0, 3),)),), (("i", ()), ("j", ((5, 5),))), ()))

    def test_cells(self):
        for text, wanted in (
                ("", "n"), ("tape t size 0", "n"), ("tape t size 4", "n + 4"), ("tape t size n", "2*n"),
                ("tape t size n^2 + 1\ntape u size 3*n^2\ntape v size 2*n", "4*n^2 + 3*n + 1"), ("index i to 7*n^3", "n + 1"),
                ("index i to 0\nindex j to 0\nindex k to 9", "n + 3"), ("procedure p\nend", "n + 1"),
                ("procedure p\nend\nprocedure q\nend\nprocedure r\nend", "n + 3"), ("procedure p\nrepeat n\nend\nend", "n + 2"),
                ("procedure p\nrepeat 5*n^3\nrepeat 0\nend\nend\nrepeat 1\nend\nend", "n + 4"),
                ("index i to 0\nprocedure p\nif i = i\nrepeat n\nend\nelse\nrepeat n\nif i = i\nelse\nrepeat 0\nend\nend\nend\nend\nend", "n + 5"),
                ("procedure p\nrepeat n\nend\nend\nprocedure q\nrepeat n\ndo p\nend\ndo p\nend", "n + 4"),
                ("tape t size n\nindex i to n\nprocedure p\nrepeat n^2 + n\n" + PICK + "end\nend", "n^2 + 3*n + 3"),
                ("tape t size n\nindex i to n\nprocedure p\nrepeat n^2\n" + PICK + "end\nend\nprocedure main\nend", "2*n + 4"),
                ("tape t size n\nindex i to n\nprocedure p\n" + PICK + "end\nprocedure main\nrepeat 3\ndo p\nend\n" + PICK + "end", "2*n + 8")):
            self.assertEqual(poly_text(cells(read(text))), wanted, text)
            check_gives(self, cells(read(text)), cells, read(text))

    def test_nested_loops(self):
        lines = "up i\n"
        for _ in range(12):
            lines = "repeat n\n" + lines + "end\n"
        program = read("index i to 1\nprocedure p\n" + lines + "end")
        check_gives(self, ((0, 1),) + tuple((at, 2) for at in range(1, 13)), clock, program)
        check_gives(self, ((0, 14), (1, 1)), cells, program)

    def test_drawn_programs(self):
        for program in drawn_programs(range(150)):
            for call in (clock, choices, cells):
                self.assertTrue(is_poly(call(program)))
            for length in (0, 1, 2, 5, 40):
                told = (value_at(clock(program), length), value_at(choices(program), length), value_at(cells(program), length))
                self.assertEqual(told, numbers(program, length), program)

    def test_plays_keep_them(self):
        reached = 0
        for program in drawn_programs(range(300, 360)):
            for word in ("", "b", "cab"):
                steps, picks, _ = numbers(program, len(word))
                if picks > 5:
                    continue
                for given in sorted(program_tree(program, word))[:8]:
                    told = run(program, word, given + "abc")
                    if told[0] == "won":
                        self.assertLessEqual(told[2], value_at(clock(program), len(word)))
                        self.assertLessEqual(told[3], value_at(choices(program), len(word)))
                        reached += told[2] == steps
                    self.assertLessEqual(Playing(program, word, given).taken, picks)
        self.assertGreater(reached, 10)


class Refusals(unittest.TestCase):

    def test_parameters(self):
        for call in (clock, choices, cells):
            check_parameters(self, call, ["program"])
            self.assertEqual(call.__module__, bounds.__name__)

    def test_no_programs(self):
        for call in (clock, choices, cells):
            for wrong in NO_PROGRAMS:
                check_raises(self, BadProgram, {"thing": wrong}, call, wrong)

    def test_examples(self):
        run_examples(self, EXAMPLES)
