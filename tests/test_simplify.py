"""The simplifier and exchanged programs: [14.1] to [14.3] and narrowplay/simplify.py."""

import random
import unittest

from narrowplay import simplify
from narrowplay.bounds import cells, choices, clock
from narrowplay.errors import BadProgram, BadStep
from narrowplay.faults import is_program
from narrowplay.plans import many_plays, winner
from narrowplay.plays import run, state_after
from narrowplay.simplify import after_step, exchanged, is_step, simplified, steps_from
from narrowplay.texts import read
from tests import simplify_reference
from tests.drawn import drawn_programs
from tests.helpers import ANY_VALUES, check_gives, check_parameters, check_raises, run_examples, twice_part, with_part, without_part
from tests.play_reference import numbers, program_tree, winners
from tests.simplify_reference import drawn_with_steps, size
from tests.test_plays import DUEL, NO_PROGRAMS

EXAMPLES = r"""
>>> from narrowplay.plans import winner
>>> from narrowplay.simplify import exchanged, is_step, simplified, steps_from
>>> from narrowplay.single import is_of_one, picks_hold, winning_picks
>>> from narrowplay.texts import read, written
>>> P = read('tape t size 1\nindex i to 0\nprocedure main\n  one chooses t[i] from a\n  if not t[i] is a\n    two wins\n    i = i\n  else\n    one wins\n  end\nend')
>>> [steps_from(P), is_step(P, ('idle', (2, 0, 1, 0))), winner(P, ''), winner(exchanged(P), ''), is_of_one(P), winning_picks(P, ''), picks_hold(P, '', 'aa')]
[(('flip', (2, 0, 1, 1)), ('idle', (2, 0, 1, 1, 2, 1)), ('late', (2, 0, 1, 1, 2, 1)), ('single', (2, 0, 1, 0))), False, 'one', 'two', True, 'a', False]
>>> written(simplified(P))
'tape t size 1\nindex i to 0\nprocedure main\n  t[i] = a\n  if t[i] is a\n    one wins\n  else\n    two wins\n  end\nend'
"""

HEAD = "tape t size 2\ntape u size n\nindex i to 1\nindex j to n\nprocedure main\n"
AT = (2, 0, 1)


def program_of(lines):
    return read(HEAD + lines + "\nend")


# Lines of a main procedure, its steps with the paths behind AT, and for each step the lines after it.
STEPS = [
    ("", []),
    ("i = j\nt[i] = u[j]\nt[i] = t[j]\nt[i] = u[i]", []),
    ("one chooses t[i] from ab\nrepeat n\nup i\nend\nrepeat 1\nup i\nend\none wins", []),
    ("if i = j\nup i\nend\nif i = i\nup j\nelse\none wins\nend", [("sure", (1,), "if i = j\nup i\nend\nup j")]),
    ("if i = j\nelse\nup i\nend\nif t[i] equals t[i]\nup i\nend", []),
    ("i = i", [("idle", (0,), "")]),
    ("up i\nj = j\ndown i", [("idle", (1,), "up i\ndown i")]),
    ("t[i] = t[i]\nu[j] = u[j]", [("idle", (0,), "u[j] = u[j]"), ("idle", (1,), "t[i] = t[i]")]),
    ("two chooses u[j] from z", [("single", (0,), "u[j] = z")]),
    ("repeat n\nend", [("hollow", (0,), "")]), ("repeat 0\nup i\nend", [("hollow", (0,), "")]), ("repeat 0\nend", [("hollow", (0,), "")]),
    ("if t[i] empty\nend", [("hollow", (0,), "")]), ("if t[i] empty\nelse\nend\nup i", [("hollow", (0,), "up i")]),
    ("if not t[i] empty\nup i\nend", [("flip", (0,), "if t[i] empty\nelse\nup i\nend")]),
    ("if not t has i\nup i\nelse\ndown i\ndown i\nend", [("flip", (0,), "if t has i\ndown i\ndown i\nelse\nup i\nend")]),
    ("if not i = i\nup i\nend", [("flip", (0,), "if i = i\nelse\nup i\nend")]),
    ("if not i = i\nend", [("flip", (0,), "if i = i\nend"), ("hollow", (0,), "")]),
    ("if i = i\nend\nup i", [("hollow", (0,), "up i"), ("sure", (0,), "up i")]),
    ("if i = i\nelse\nup j\nend", [("sure", (0,), "")]),
    ("if j = j\nup i\nup j\nelse\none wins\nend\none wins", [("sure", (0,), "up i\nup j\none wins")]),
    ("if not not t[i] is a\nup i\nend", [("flip", (0,), "if not t[i] is a\nelse\nup i\nend"), ("twice", (0, 1), "if t[i] is a\nup i\nend")]),
    ("if not not not i = j\nup i\nend", [
        ("flip", (0,), "if not not i = j\nelse\nup i\nend"), ("twice", (0, 1), "if not i = j\nup i\nend"),
        ("twice", (0, 1, 1), "if not i = j\nup i\nend")]),
    ("if not not not not i = j\nelse\nup i\nend", [
        ("flip", (0,), "if not not not i = j\nup i\nend"), ("twice", (0, 1), "if not not i = j\nelse\nup i\nend"),
        ("twice", (0, 1, 1), "if not not i = j\nelse\nup i\nend"), ("twice", (0, 1, 1, 1), "if not not i = j\nelse\nup i\nend")]),
    ("one wins\nup i", [("late", (1,), "one wins")]),
    ("two wins\none wins\nup i", [("late", (1,), "two wins\nup i"), ("late", (2,), "two wins\none wins")]),
    ("one wins\ni = i", [("idle", (1,), "one wins"), ("late", (1,), "one wins")]),
    ("one wins\none chooses t[i] from a", [("late", (1,), "one wins"), ("single", (1,), "one wins\nt[i] = a")]),
    ("if i = j\none wins\nelse\ntwo wins\nend\nup i", []),
    ("if i = j\none wins\nup i\nelse\nup i\ntwo wins\nend\nup i", [("late", (0, 2, 1), "if i = j\none wins\nelse\nup i\ntwo wins\nend\nup i")]),
    ("repeat n\nup i\ntwo wins\ni = j\nend", [("late", (0, 2, 2), "repeat n\nup i\ntwo wins\nend")]),
    ("one wins\nif not i = j\nrepeat 0\nend\nend", [
        ("flip", (1,), "one wins\nif i = j\nelse\nrepeat 0\nend\nend"), ("hollow", (1, 2, 0), "one wins\nif not i = j\nend"), ("late", (1,), "one wins")]),
    ("repeat n\nif i = j\nelse\nrepeat 2\ni = i\nend\nend\nend", [
        ("idle", (0, 2, 0, 3, 0, 2, 0), "repeat n\nif i = j\nelse\nrepeat 2\nend\nend\nend")]),
    ("if i = j\nif j = i\none chooses t[i] from b\nend\nelse\nif i = j\nup i\nelse\none chooses t[i] from b\nend\nend", [
        ("single", (0, 2, 0, 2, 0), "if i = j\nif j = i\nt[i] = b\nend\nelse\nif i = j\nup i\nelse\none chooses t[i] from b\nend\nend"),
        ("single", (0, 3, 0, 3, 0), "if i = j\nif j = i\none chooses t[i] from b\nend\nelse\nif i = j\nup i\nelse\nt[i] = b\nend\nend")]),
]


def near_steps(program, step):
    """Return values near a step."""
    word, path = step
    found = [
        list(step), step[::-1], (step,), (word,), (path,), (word, path, ()), (word,) + path, (word, list(path)), (word, path + (0,)),
        (word, path[:-1]), (word, path[1:]), (word, (0,) + path), (word, path[::-1]), (word, ()), (word, None), (word, 0), (word.upper(), path),
        (word + " ", path), ([word], path), ((word,), path), (None, path), (True, path), ("", path), (path, word), {word: path}]
    found += [(other, path) for other in ("flip", "hollow", "idle", "late", "single", "sure", "twice")]
    for at, number in enumerate(path):
        found += [(word, with_part(path, at, other)) for other in (number + 1, number - 1, str(number), None, (number,), [number])]
        found += [(word, without_part(path, at)), (word, twice_part(path, at))]
        if number in (0, 1):
            found.append((word, with_part(path, at, bool(number))))
    return found


class Steps(unittest.TestCase):

    def test_each_kind(self):
        for lines, wanted in STEPS:
            program = program_of(lines)
            check_gives(self, tuple((word, AT + path) for word, path, _ in wanted), steps_from, program)
            for word, path, after in wanted:
                check_gives(self, program_of(after), after_step, program, (word, AT + path))
                check_gives(self, True, is_step, program, (word, AT + path))

    def test_procedures(self):
        program = read("index i to 1\nprocedure a\ni = i\nend\nprocedure b\nend\nprocedure c\nup i\nif not i = i\none wins\ndo a\nend\nend")
        steps = (("flip", (2, 2, 1, 1)), ("idle", (2, 0, 1, 0)), ("late", (2, 2, 1, 1, 2, 1)))
        check_gives(self, steps, steps_from, program)
        check_gives(self, read("index i to 1\nprocedure a\nend\nprocedure b\nend\nprocedure c\nup i\nif not i = i\none wins\ndo a\nend\nend"),
                    after_step, program, steps[1])
        # Flipped, and freed of what is idle and late, the "if" is sure to do nothing.
        check_gives(self, read("index i to 1\nprocedure a\nend\nprocedure b\nend\nprocedure c\nup i\nend"), simplified, program)
        for empty in (((), (), ()), ((("t", ()),), (("i", ()),), ()), ((), (), (("p", ()),))):
            check_gives(self, (), steps_from, empty)
            check_gives(self, empty, simplified, empty)

    def test_drawn_programs(self):
        words = {}
        for program in drawn_with_steps(range(160)) + drawn_programs(range(40)):
            steps = simplify_reference.steps(program)
            self.assertEqual(steps_from(program), tuple(steps))
            for step in steps:
                words[step[0]] = words.get(step[0], 0) + 1
                after = after_step(program, step)
                self.assertEqual(after, simplify_reference.after(program, step), step)
                self.assertIs(is_program(after), True)
                self.assertIs(is_step(program, step), True)
                (many, picked), (many_after, picked_after) = size(program), size(after)
                self.assertTrue(many_after < many or (step[0] == "single" and many_after == many and picked_after < picked))
        self.assertEqual(sorted(words), ["flip", "hollow", "idle", "late", "single", "sure", "twice"])
        self.assertGreater(min(words.values()), 20, words)

    def test_near_values(self):
        programs = [program_of(lines) for lines, wanted in STEPS if wanted] + drawn_with_steps(range(30), 25)
        for program in programs:
            steps = simplify_reference.steps(program)
            for step in steps:
                for thing in near_steps(program, step):
                    wanted = any(repr(thing) == repr(other) for other in steps)
                    self.assertIs(is_step(program, thing), wanted, thing)

    def test_any_value_and_steps_of_others(self):
        every = sorted({step for lines, wanted in STEPS for step in steps_from(program_of(lines))})
        for lines, wanted in STEPS:
            program = program_of(lines)
            for thing in ANY_VALUES:
                check_gives(self, False, is_step, program, thing)
            steps = simplify_reference.steps(program)
            for step in every:
                self.assertIs(is_step(program, step), step in steps)

    def test_examples(self):
        run_examples(self, EXAMPLES)


def bounds(program):
    return [numbers(program, length) for length in (0, 1, 4)]


class Kept(unittest.TestCase):

    def test_winners_and_bounds(self):
        wins = {"one": 0, "two": 0}
        for program in drawn_with_steps(range(300, 600)):
            before = bounds(program)
            if any(picked > 6 for _, picked, _ in before[:2]):
                continue
            words = [word for word in ("", "a", "b") if len(program_tree(program, word)) < 80]
            won = [winners(program_tree(program, word))[""] for word in words]
            for step in steps_from(program):
                after = after_step(program, step)
                self.assertEqual([winner(after, word) for word in words], won, (program, step))
                for old, new in zip(before, bounds(after)):
                    self.assertTrue(all(number <= other for number, other in zip(new, old)), (program, step))
            for player in won:
                wins[player] += 1
        self.assertGreater(min(wins.values()), 50, wins)

    def test_simplified(self):
        changed = 0
        for program in drawn_with_steps(range(600, 800)) + [program_of(lines) for lines, _ in STEPS]:
            wanted = program
            while simplify_reference.steps(wanted):
                wanted = simplify_reference.after(wanted, simplify_reference.steps(wanted)[0])
            check_gives(self, wanted, simplified, program)
            self.assertEqual(steps_from(wanted), ())
            self.assertEqual(simplified(wanted), wanted)
            changed += wanted != program
            if all(picked <= 5 for _, picked, _ in bounds(program)[:2]):
                for word in ("", "c"):
                    self.assertEqual(winner(wanted, word), winners(program_tree(program, word))[""])
                for new, old in zip(bounds(wanted), bounds(program)):
                    self.assertTrue(all(number <= other for number, other in zip(new, old)))
        self.assertGreater(changed, 100)

    def test_names_and_sizes_stay(self):
        for program in drawn_with_steps(range(100)):
            after = simplified(program)
            self.assertEqual(after[:2], program[:2])
            self.assertEqual([name for name, _ in after[2]], [name for name, _ in program[2]])

    def test_order(self):
        # The first step by the words is not the first one by the paths, and it takes another one away.
        program = program_of("if i = i\ni = i\nend\nif not j = i\nelse\ntwo chooses t[i] from a\nend")
        check_gives(self, program_of("if j = i\nt[i] = a\nend"), simplified, program)
        program = program_of("if not not i = j\nup i\nelse\ndown i\nend")
        check_gives(self, program_of("if i = j\nup i\nelse\ndown i\nend"), simplified, program)
        self.assertEqual(after_step(program, steps_from(program)[0]), program_of("if not i = j\ndown i\nelse\nup i\nend"))


class Exchanged(unittest.TestCase):

    def test_by_hand(self):
        main = (("main", (("wins", "one"),)),)
        check_gives(self, ((), (), main), exchanged, ((), (), ()))
        check_gives(self, ((("main", ()),), (("main", ()),), main), exchanged, ((("main", ()),), (("main", ()),), ()))
        check_gives(self, ((), (), (("p", (("wins", "one"),)),)), exchanged, ((), (), (("p", ()),)))
        check_gives(self, ((), (), (("p", (("wins", "two"), ("wins", "one"))),)), exchanged, ((), (), (("p", (("wins", "one"),)),)))
        check_gives(self, program_of("two chooses t[i] from a\nif not i = j\nrepeat n\none wins\nend\nelse\none chooses u[j] from ab\nend\none wins"),
                    exchanged, program_of("one chooses t[i] from a\nif not i = j\nrepeat n\ntwo wins\nend\nelse\ntwo chooses u[j] from ab\nend"))
        check_gives(self, read("procedure one_\ntwo wins\nend\nprocedure two_\ndo one_\none wins\nend"), exchanged,
                    read("procedure one_\none wins\nend\nprocedure two_\ndo one_\nend"))

    def test_drawn_programs(self):
        wins = {"one": 0, "two": 0}
        for program in drawn_with_steps(range(800, 1000)) + drawn_programs(range(100)) + [((), (), ()), DUEL]:
            turned = exchanged(program)
            self.assertEqual(turned, simplify_reference.exchanged(program))
            self.assertIs(is_program(turned), True)
            for word in ("", "ab"):
                if numbers(program, len(word))[1] > 5:
                    continue
                found = program_tree(program, word)
                if len(found) > 60:
                    continue
                player = winners(found)[""]
                wins[player] += 1
                self.assertEqual(winner(turned, word), {"one": "two", "two": "one"}[player])
                self.assertEqual(winner(exchanged(turned), word), player)
                self.assertEqual(many_plays(turned, word), many_plays(program, word))
                for picks in sorted(found)[::6]:
                    self.same_play(program, turned, word, picks)
        self.assertGreater(min(wins.values()), 40, wins)

    def same_play(self, program, turned, word, picks):
        told, other = run(program, word, picks), run(turned, word, picks)
        self.assertEqual(other[0], told[0])
        self.assertEqual(other[1], {"one": "two", "two": "one"}[told[1]])
        if told[0] == "asks":
            self.assertEqual(other[2:], told[2:])
        else:
            self.assertEqual(other[3], told[3])
            self.assertIn(other[2] - told[2], (0, 1))
        self.assertEqual(state_after(turned, word, picks), state_after(program, word, picks))

    def test_bounds(self):
        for program in drawn_programs(range(60)):
            turned = exchanged(program)
            self.assertEqual(choices(turned), choices(program))
            self.assertEqual(cells(turned), cells(program))
            self.assertEqual(dict(clock(turned)), {**dict(clock(program)), 0: dict(clock(program)).get(0, 0) + 1})


CALLS = [(steps_from, ()), (is_step, (("idle", (2, 0, 1, 0)),)), (is_step, (None,)), (after_step, (("idle", (2, 0, 1, 0)),)), (after_step, (None,)),
         (simplified, ()), (exchanged, ())]


class Refusals(unittest.TestCase):

    def test_parameters(self):
        for call, names in ((steps_from, ["program"]), (is_step, ["program", "thing"]), (after_step, ["program", "step"]),
                            (simplified, ["program"]), (exchanged, ["program"])):
            check_parameters(self, call, names)
            self.assertEqual(call.__module__, simplify.__name__)

    def test_no_programs(self):
        for call, more in CALLS:
            for wrong in NO_PROGRAMS:
                check_raises(self, BadProgram, {"thing": wrong}, call, wrong, *more)

    def test_no_steps(self):
        for wrong in ANY_VALUES:
            check_raises(self, BadStep, {"thing": wrong}, after_step, DUEL, wrong)
        drawn = random.Random(3)
        for lines, wanted in STEPS:
            program = program_of(lines)
            steps = [repr(step) for step in simplify_reference.steps(program)]
            for word, path, _ in wanted:
                near = [thing for thing in near_steps(program, (word, AT + path)) if repr(thing) not in steps]
                for wrong in drawn.sample(near, 20):
                    check_raises(self, BadStep, {"thing": wrong}, after_step, program, wrong)
