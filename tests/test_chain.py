"""The whole chain, and all parts beside one another: [13.3], [0.3] and narrowplay/chain.py."""

import random
import unittest

from narrowplay import chain as module
from narrowplay.bounds import cells, choices, clock
from narrowplay.chain import chain
from narrowplay.code import is_accepted, judge_code
from narrowplay.codebounds import code_cells, code_choices, code_clock
from narrowplay.compiler import compiled
from narrowplay.errors import BadProgram, BadText, BadWord
from narrowplay.formulas import formula_program, formula_value
from narrowplay.narrow import code_plan, code_plan_holds, code_plays, narrow
from narrowplay.plans import make_plan, many_plays, plan_holds, winner, wins_from
from narrowplay.plays import run, state_after
from narrowplay.polys import value_at
from narrowplay.runs import cells_held, run_code
from narrowplay.shelf import domino_program, domino_winner, takeaway_program, takeaway_winner, ties_program, ties_winner
from narrowplay.simplify import exchanged, simplified
from narrowplay.single import is_of_one, picks_hold, winning_picks
from narrowplay.texts import read, written
from tests import code_reference
from tests.drawn import drawn_programs
from tests.formula_reference import drawn_formulas
from tests.helpers import ANY_VALUES, check_gives, check_parameters, check_raises, run_examples
from tests.play_reference import numbers, program_tree, winners
from tests.simplify_reference import drawn_of_one, drawn_with_steps
from tests.test_compiler import at_most, same_end
from tests.test_plays import NO_WORDS

EXAMPLES = r"""
>>> from narrowplay.chain import chain
>>> from narrowplay.shelf import domino_winner, takeaway_winner, ties_winner
>>> [takeaway_winner(2, 3), takeaway_winner(2, 4), takeaway_winner(1, 0), domino_winner(4), domino_winner(5), domino_winner(1)]
['two', 'one', 'two', 'one', 'two', 'two']
>>> [ties_winner((("a", "b"), ("b", "c")), "abc"), ties_winner((("a", "b"), ("a", "c"), ("b", "c")), "abc"), ties_winner((), "")]
['two', 'one', 'two']
"""

GUESS = "tape t size 1\nindex i to 0\nprocedure main\n  two chooses t[i] from ab\n  if t[i] equals input[i]\n    one wins\n  end\nend"


def loosened(text, drawn):
    """Return a text with other blanks at the beginnings of its lines, and with lines of blanks alone and empty ones."""
    lines = []
    for line in text.split("\n"):
        lines += [" " * drawn.randrange(4) for _ in range(drawn.choice([0, 0, 1, 2]))]
        lines.append(" " * drawn.randrange(5) + line.lstrip(" "))
    return "\n".join(lines + [""] * drawn.randrange(3))


class Chain(unittest.TestCase):

    def test_by_hand(self):
        check_gives(self, ("two", 1, 0, 0), chain, "", "")
        check_gives(self, ("two", 1, 3, 3), chain, "", "abc")
        check_gives(self, ("two", 1, 3, 3), chain, "\n  \n", "abc")
        check_gives(self, ("one", 1, 0, 0), chain, "procedure p\none wins\nend", "")
        check_gives(self, ("two", 5, 4, 4), chain, GUESS, "a")
        check_gives(self, ("two", 3, 4, 4), chain, GUESS, "b")
        check_gives(self, ("two", 3, 3, 3), chain, GUESS, "")
        check_gives(self, ("one", 3, 5, 5), chain, GUESS.replace("two chooses", "one chooses"), "ab")
        # The deepest call and the longest picks are not in one play.
        text = ("tape t size 1\nindex i to 0\nprocedure p\nrepeat 1\nend\nend\nprocedure main\none chooses t[i] from ab\nif t[i] is a\none wins\nend\n"
                "do p\nend")
        check_gives(self, ("one", 3, 3, 5), chain, text, "")
        check_gives(self, ("two", 5, 5, 5), chain, text.replace("one wins", "two wins"), "")

    def test_drawn_programs(self):
        wins = {"one": 0, "two": 0}
        drawn = random.Random(1)
        tight = 0
        for program in drawn_programs(range(900, 1300)):
            for word in ("", "ab", "c"):
                if numbers(program, len(word))[1] > 5:
                    continue
                found = program_tree(program, word)
                if len(found) < 2 or len(found) > 100:
                    continue
                told = chain(loosened(written(program), drawn), word)
                player, runs, held = code_reference.narrow(compiled(program), word)
                self.assertEqual(told[:3], (player, runs, held))
                self.assertEqual(told[:3], narrow(compiled(program), word))
                self.assertEqual(player, winners(found)[""])
                self.assertEqual(told[3], code_reference.bounds(compiled(program), len(word))[3])
                self.assertLessEqual(held, told[3])
                tight += held == told[3]
                wins[player] += 1
        self.assertGreater(min(wins.values()), 20, wins)
        self.assertGreater(tight, 20)

    def test_games(self):
        for text, word, player in (
                (written(takeaway_program(2)), "abcd", takeaway_winner(2, 4)), (written(takeaway_program(3)), "abcd", takeaway_winner(3, 4)),
                (written(domino_program()), "abcd", domino_winner(4)), (written(domino_program()), "a", domino_winner(1)),
                (written(ties_program((("a", "b"), ("b", "c")))), "abc", ties_winner((("a", "b"), ("b", "c")), "abc"))):
            told = chain(text, word)
            self.assertEqual(told[0], player)
            self.assertLessEqual(told[2], told[3])
        for formula in drawn_formulas(range(20), 4):
            self.assertEqual(chain(written(formula_program(formula)), "x")[0], "one" if formula_value(formula) else "two")

    def test_examples(self):
        run_examples(self, EXAMPLES)


class Refusals(unittest.TestCase):

    def test_parameters(self):
        check_parameters(self, chain, ["text", "word"])
        self.assertEqual(chain.__module__, module.__name__)

    def test_no_texts(self):
        for wrong in [thing for thing in ANY_VALUES if not isinstance(thing, str)]:
            for word in ("", None, "A"):
                check_raises(self, BadText, {"at": 0}, chain, wrong, word)
        for text, at in (("a", 1), ("procedure p", 2), ("\nprocedure p\nif i = i\n", 5), ("tape t size 01", 1), (GUESS + "\nend", 9),
                         (GUESS + "\ntape t size 1", 9), (GUESS[:-4], 8), (GUESS.replace("equals", "equal"), 5), ("procedure p\ndo q", 3)):
            for word in ("", None, "A"):
                check_raises(self, BadText, {"at": at}, chain, text, word)

    def test_no_programs(self):
        for text in ("procedure p\ndo p\nend", "tape input size 1", "tape t size 1\ntape t size 2", GUESS.replace("tape t size 1\n", ""),
                     GUESS.replace("two chooses t", "two chooses input"), "procedure p\nup i\nend", GUESS + "\nprocedure main\nend"):
            for word in ("", None, "A"):
                with self.assertRaises(BadProgram) as caught:
                    chain(text, word)
                self.assertEqual(vars(caught.exception), {"thing": read(text)})
                with self.assertRaises(BadProgram):
                    chain(word=word, text=text)

    def test_no_words(self):
        for wrong in NO_WORDS:
            for text in ("", GUESS):
                check_raises(self, BadWord, {"thing": wrong}, chain, text, wrong)


class Whole(unittest.TestCase):
    """The document over the whole program: all that it promises for one and the same program, word and picks."""

    def test_all_parts(self):
        wins = {"one": 0, "two": 0}
        programs = drawn_programs(range(2000, 2025)) + drawn_with_steps(range(2000, 2025)) + drawn_of_one(range(2000, 2025))
        for program in programs + [domino_program(), takeaway_program(2)]:
            for word in ("", "ab"):
                if numbers(program, len(word))[1] > 5:
                    continue
                found = program_tree(program, word)
                if len(found) > 60:
                    continue
                player = winners(found)[""]
                wins[player] += 1
                self.winners(program, word, player)
                self.bounds(program, word, found)
                for picks in sorted(found)[::5]:
                    self.plays(program, word, picks, winners(found)[picks])
        self.assertGreater(min(wins.values()), 20, wins)

    def winners(self, program, word, player):
        other = {"one": "two", "two": "one"}[player]
        self.assertEqual(read(written(program)), program)
        code = compiled(program)
        self.assertEqual(judge_code(code), ("accepted",))
        self.assertIs(is_accepted(code), True)
        self.assertEqual(winner(program, word), player)
        self.assertEqual(narrow(code, word)[0], player)
        self.assertEqual(chain(written(program), word)[:3], narrow(code, word))
        self.assertEqual(code_plan(code, word)[0], player)
        self.assertEqual(winner(simplified(program), word), player)
        self.assertEqual(narrow(compiled(simplified(program)), word)[0], player)
        self.assertEqual(winner(exchanged(program), word), other)
        self.assertEqual(narrow(compiled(exchanged(program)), word)[0], other)
        for plan in (make_plan(program, word), code_plan(code, word)[1]):
            self.assertIs(plan_holds(program, word, player, plan), True)
            self.assertIs(plan_holds(program, word, other, plan), False)
            self.assertIs(code_plan_holds(code, word, player, plan), True)
            self.assertIs(code_plan_holds(code, word, other, plan), False)
        if is_of_one(program):
            self.assertEqual(winning_picks(program, word) is None, player == "two")
            self.assertIs(picks_hold(program, word, winning_picks(program, word)), player == "one")

    def bounds(self, program, word, found):
        many = len(word)
        code = compiled(program)
        self.assertTrue(at_most(code_clock(code), clock(program), 2))
        self.assertEqual(code_choices(code), choices(program))
        self.assertTrue(at_most(code_cells(code), cells(program), 1))
        self.assertEqual(many_plays(program, word), len(code_plays(code, word)))
        self.assertLessEqual(narrow(code, word)[2], value_at(code_cells(code), many))
        self.assertLessEqual(narrow(code, word)[1], 2 * len(found) - 1)
        for call in (clock, choices, cells):
            self.assertLessEqual(value_at(call(simplified(program)), many), value_at(call(program), many))

    def plays(self, program, word, picks, player):
        many = len(word)
        code = compiled(program)
        self.assertEqual(wins_from(program, word, picks), player)
        told = run(program, word, picks)
        self.assertTrue(same_end(run_code(code, word, picks), told))
        steps = told[2] if told[0] == "won" else told[3]
        self.assertLessEqual(steps, value_at(clock(program), many))
        self.assertLessEqual(len(picks), value_at(choices(program), many))
        self.assertLessEqual(cells_held(code, word, picks), value_at(code_cells(code), many))
        tapes, indexes = state_after(program, word, picks)
        self.assertEqual([len(tape) for tape in tapes], [value_at(size, many) for _, size in program[0]])
        self.assertTrue(all(0 <= number <= value_at(bound, many) for number, (_, bound) in zip(indexes, program[1])))
