"""Faults, certificates and programs: [3.1], [3.2] and narrowplay/faults.py."""

import unittest

from narrowplay import faults
from narrowplay.errors import BadScript
from narrowplay.faults import is_program, judge_script, script_holds
from narrowplay.scripts import is_script
from narrowplay.texts import read, written
from tests import play_reference
from tests.drawn import drawn_programs, drawn_scripts
from tests.helpers import (ANY_VALUES, check_gives, check_parameters, check_raises, nested, run_examples, with_part)

EXAMPLES = r"""
>>> from narrowplay.faults import is_program, judge_script, script_holds
>>> from narrowplay.texts import read
>>> GOOD = read('tape t size 2\nindex i to 1\nprocedure main\none chooses t[i] from ab\nend')
>>> BAD = read('tape t size 1\ntape t size 2\nindex i to 1\nprocedure p\ndo p\ninput[i] = t[j]\nend')
>>> [judge_script(GOOD), is_program(BAD), script_holds(BAD, ('twice', (0, 1, 0))), script_holds(BAD, ('unknown', (2, 0, 1, 0, 1))), script_holds(BAD, ('input', (2, 0, 1, 1, 1))), script_holds(BAD, ('unknown', (2, 0, 1, 1, 4)))]
[('fit',), False, True, True, True, True]
"""

BAD = read("tape t size 1\ntape t size 2\nindex i to 1\nprocedure p\ndo p\ninput[i] = t[j]\nend")
SIZE = ((0, 2),)

# Each kind of command and of test with the places of its names, by sort; "w" is the tape that is written to.
COMMANDS = [
    (("set", "t", "i", "a"), {1: "w", 2: "i"}),
    (("copy", "t", "i", "u", "j"), {1: "w", 2: "i", 3: "t", 4: "i"}),
    (("clear", "t", "i"), {1: "w", 2: "i"}),
    (("zero", "i"), {1: "i"}),
    (("up", "i"), {1: "i"}),
    (("down", "i"), {1: "i"}),
    (("same", "i", "j"), {1: "i", 2: "i"}),
    (("do", "p"), {1: "p"}),
    (("choose", "two", "t", "i", "ab"), {2: "w", 3: "i"}),
    (("wins", "one"), {}),
    (("if", ("at", "i", "j"), (), ()), {}),
    (("repeat", SIZE, ()), {}),
]
TESTS = [
    (("is", "t", "i", "a"), {1: "t", 2: "i"}),
    (("equal", "t", "i", "u", "j"), {1: "t", 2: "i", 3: "t", 4: "i"}),
    (("empty", "t", "i"), {1: "t", 2: "i"}),
    (("inside", "t", "i"), {1: "t", 2: "i"}),
    (("at", "i", "j"), {1: "i", 2: "i"}),
]
UP = ("up", "i")
AT = ("at", "i", "j")

# Where a command can stand, as the block around it and the path to it in this block.
PLACES = [
    (lambda command: (command,), (0,)),
    (lambda command: (UP, command, UP), (1,)),
    (lambda command: (("if", AT, (command,), ()),), (0, 2, 0)),
    (lambda command: (("if", AT, (UP,), (UP, UP, command)),), (0, 3, 2)),
    (lambda command: (UP, ("repeat", (), (UP, command))), (1, 2, 1)),
    (lambda command: (("repeat", SIZE, (("if", AT, (), (("repeat", SIZE, (command, UP)),)),)),), (0, 2, 0, 3, 0, 2, 0)),
    (lambda command: (("wins", "one"), command), (1,)),
    (lambda command: nested(lambda core: (("if", AT, (UP,) + core, ()),), 15, (command,)), (0,) + (2, 1, ) * 15),
]
# Where a test can stand, as the command around it and the path to it in this command.
TEST_PLACES = [
    (lambda test: ("if", test, (), ()), (1,)),
    (lambda test: ("if", ("not", test), (UP,), ()), (1, 1)),
    (lambda test: ("if", nested(lambda core: ("not", core), 15, test), (), (UP,)), (1,) + (1,) * 15),
]
# Names that are wrong for a sort, in the procedure "main" of the script that script_with makes.
WRONG = {
    "t": ["x", "i", "j", "p", "main", "later", "tt", "inputs"],
    "i": ["x", "t", "u", "p", "input", "main", "ii"],
    "p": ["x", "main", "later", "t", "i", "input", "pp"],
}
RIGHT = {"t": ["t", "u", "input", "both"], "w": ["t", "u", "both"], "i": ["i", "j", "both"], "p": ["p", "q", "both"]}


def script_with(block):
    """Return a script without a fault but for those in a block, which is that of procedure number 3."""
    return (
        (("t", SIZE), ("u", ()), ("both", SIZE)), (("i", SIZE), ("both", ()), ("j", SIZE)),
        (("p", (UP,)), ("q", (("do", "p"),)), ("both", ()), ("main", block), ("later", ())))


def wrong_names(sort, path):
    """Return wrong names for a place, all of them for short paths and some for others."""
    return WRONG[sort][:: 1 if len(path) <= 2 else 3]


def variants(certificate):
    """Return values that are near to a certificate with a path."""
    word, path = certificate
    found = [
        (word,), (path,), (word, path, ()), (word, path, None), (path, word), [word, path], (word, list(path)), {word: path},
        (word, path + (0,)), (word, path + (1,)), (word, path[:-1]), (word, path[1:]), (word, ()), (word, path[::-1]),
        (word, path, path), ((word, path),), (word, (path,)), word, path, None, ("fit",), ("fit", path), (word.upper(), path),
        (word + " ", path), (None, path), (True, path), ([word], path), (word, None), (word, 0), (word, repr(path)),
        ("wrong", path), ("", path), (word, {}), (word, path[:-1] + ((path[-1],),)), (word, path[:-1] + ([path[-1]],)),
        ("twice", path), ("unknown", path), ("input", path),
    ]
    for at, number in enumerate(path):
        for other in (number + 1, number - 1, -number - 1, str(number), None, bool(number), number + 10 ** 30):
            found.append((word, with_part(path, at, other)))
        found.append((word, path[:at] + path[at + 1:]))
        found.append((word, path[:at] + path[at:at + 1] + path[at:]))
    return found


class Faults(unittest.TestCase):

    def check(self, script, wanted):
        """Check that a script has just these faults, and that near values are none."""
        self.assertTrue(is_script(script), script)
        self.assertEqual(sorted(play_reference.faults(script)), sorted(wanted), script)
        right = {repr(fault) for fault in wanted} if wanted else {repr(("fit",))}
        self.assertIn(repr(judge_script(script)), right)
        self.assertEqual(repr(judge_script(script=script)), repr(judge_script(script)))
        for fault in wanted if wanted else [("fit",)]:
            check_gives(self, True, script_holds, script, fault)
        self.assertIs(script_holds(script, ("fit",)), not wanted)
        check_gives(self, not wanted, is_program, script)

    def check_near(self, script, wanted):
        """Check values near to some of the faults of a script, and near to ("fit",)."""
        right = {repr(fault) for fault in wanted} if wanted else {repr(("fit",))}
        near = [("fit", ()), ["fit"], "fit", ("fit", None), ("Fit",), ("fits",), (), None, True, ("fit", "fit"), (("fit",),),
                ("unknown",), ("twice",), ("input",), ("unknown", ()), ("fit",), ({},), ([], ()), (True,), ("fit",) * 3]
        for fault in wanted[:4]:
            near += variants(fault)
        for thing in near + ANY_VALUES:
            self.assertIs(script_holds(script, thing), repr(thing) in right, (script, thing))

    def test_unknown_names_in_commands(self):
        for sample, names in COMMANDS:
            for wrap, path in PLACES:
                self.check(script_with(wrap(sample)), [])
                for at, sort in names.items():
                    for wrong in wrong_names(sort.replace("w", "t"), path):
                        self.check(script_with(wrap(with_part(sample, at, wrong))), [("unknown", (2, 3, 1) + path + (at,))])

    def test_unknown_names_in_tests(self):
        for sample, names in TESTS:
            for within, inner in TEST_PLACES:
                for wrap, path in PLACES:
                    self.check(script_with(wrap(within(sample))), [])
                    for at, sort in names.items():
                        for wrong in wrong_names(sort, path + inner):
                            script = script_with(wrap(within(with_part(sample, at, wrong))))
                            self.check(script, [("unknown", (2, 3, 1) + path + inner + (at,))])

    def test_known_names(self):
        for sample, names in COMMANDS:
            for at, sort in names.items():
                for right in RIGHT[sort]:
                    self.check(script_with((UP, with_part(sample, at, right))), [])
        for sample, names in TESTS:
            for at, sort in names.items():
                for right in RIGHT[sort]:
                    self.check(script_with((("if", ("not", with_part(sample, at, right)), (), ()),)), [])

    def test_input_that_is_written_to(self):
        for sample, names in COMMANDS:
            for wrap, path in PLACES:
                for at, sort in names.items():
                    if sort == "w":
                        self.check(script_with(wrap(with_part(sample, at, "input"))), [("input", (2, 3, 1) + path + (at,))])

    def test_input_that_is_written_to_and_is_a_tape(self):
        for sample, names in COMMANDS:
            for at, sort in names.items():
                if sort in ("w", "t"):
                    script = ((("t", ()), ("input", SIZE), ("u", ())), (("i", ()), ("j", ())),
                              (("p", ()), ("main", (with_part(sample, at, "input"),))))
                    written_to = [("input", (2, 1, 1, 0, at))] if sort == "w" else []
                    self.check(script, [("twice", (0, 1, 0))] + written_to)
                    self.check_near(script, [("twice", (0, 1, 0))] + written_to)

    def test_input_without_tapes_and_indexes(self):
        self.check(((), (("i", ()),), (("p", (("if", ("is", "input", "i", "a"), (), ()),)),)), [])
        self.check(((), (), (("p", (("if", ("is", "input", "i", "a"), (), ()),)),)), [("unknown", (2, 0, 1, 0, 1, 2))])
        self.check(((), (), (("p", (("copy", "input", "i", "input", "j"),)),)), [
            ("input", (2, 0, 1, 0, 1)), ("unknown", (2, 0, 1, 0, 2)), ("unknown", (2, 0, 1, 0, 4))])

    def test_index_called_input(self):
        self.check(((("t", ()),), (("input", ()),), (("p", (
            ("set", "t", "input", "a"), ("up", "input"), ("if", ("is", "input", "input", "a"), (), ()),
            ("copy", "t", "input", "input", "input"))),)), [])

    def test_names_twice(self):
        for sort, value in ((0, SIZE), (1, SIZE), (2, ())):
            for many in range(1, 5):
                script = with_part(((), (), ()), sort, (("a", value), ("z", value)) + (("z", value),) * (many - 1))
                self.check(script, [("twice", (sort, at, 0)) for at in range(2, many + 1)])
                self.check_near(script, [("twice", (sort, at, 0)) for at in range(2, many + 1)])
            pairs = tuple((name, value) for name in ("z", "y", "x", "y", "z", "y"))
            self.check(with_part(((), (), ()), sort, pairs), [("twice", (sort, at, 0)) for at in (3, 4, 5)])

    def test_names_across_sorts(self):
        for name in ("z", "t", "p"):
            self.check(((("t", ()), (name + "1", SIZE)), ((name + "1", ()), ("t", ())), (("t", ()), (name + "1", ()))), [])

    def test_things_called_input(self):
        self.check(((("input", SIZE),), (), ()), [("twice", (0, 0, 0))])
        self.check_near(((("input", SIZE),), (), ()), [("twice", (0, 0, 0))])
        self.check(((("input", SIZE), ("t", ()), ("input", ())), (), ()), [("twice", (0, 0, 0)), ("twice", (0, 2, 0))])
        self.check(((), (("input", SIZE),), ()), [])
        self.check(((), (("input", SIZE), ("input", SIZE)), ()), [("twice", (1, 1, 0))])
        self.check(((), (), (("input", ()), ("main", (("do", "input"),)))), [])
        self.check(((), (), (("input", ()), ("input", ()))), [("twice", (2, 1, 0))])
        self.check(((), (), (("main", (("do", "input"),)),)), [("unknown", (2, 0, 1, 0, 1))])

    def test_procedures_that_are_done(self):
        done = (("do", "p"), ("do", "q"), ("do", "r"))
        self.check(((), (), (("p", done), ("q", done), ("r", done))), [
            ("unknown", (2, 0, 1, 0, 1)), ("unknown", (2, 0, 1, 1, 1)), ("unknown", (2, 0, 1, 2, 1)),
            ("unknown", (2, 1, 1, 1, 1)), ("unknown", (2, 1, 1, 2, 1)), ("unknown", (2, 2, 1, 2, 1))])
        # A procedure with the name of an earlier one may do this name, as an earlier one has it.
        self.check(((), (), (("p", ()), ("p", (("do", "p"),)))), [("twice", (2, 1, 0))])
        self.check(((), (), (("p", (("do", "p"),)), ("p", (("do", "p"),)))), [
            ("unknown", (2, 0, 1, 0, 1)), ("twice", (2, 1, 0))])

    def test_several_faults(self):
        wanted = [("twice", (0, 1, 0)), ("unknown", (2, 0, 1, 0, 1)), ("input", (2, 0, 1, 1, 1)), ("unknown", (2, 0, 1, 1, 4))]
        self.check(BAD, wanted)
        self.check_near(BAD, wanted)
        wrong = (("if", ("not", ("equal", "x", "y", "input", "i")), (("choose", "one", "input", "y", "ab"),), (("do", "w"),)),)
        script = ((("t", ()), ("input", ())), (("i", ()), ("i", ())), (("w", (("repeat", (), wrong),)),))
        at = (2, 0, 1, 0, 2, 0)
        wanted = [
            ("twice", (0, 1, 0)), ("twice", (1, 1, 0)), ("unknown", at + (1, 1, 1)), ("unknown", at + (1, 1, 2)),
            ("input", at + (2, 0, 2)), ("unknown", at + (2, 0, 3)), ("unknown", at + (3, 0, 1))]
        self.check(script, wanted)
        self.check_near(script, wanted)

    def test_without_anything(self):
        for script in (((), (), ()), ((), (), (("p", ()),)), ((("t", ()),), (), ()), ((), (("i", ()),), ())):
            self.check(script, [])
            self.check_near(script, [])

    def test_drawn_scripts(self):
        for script in drawn_scripts(range(150)):
            wanted = play_reference.faults(script)
            self.check(script, wanted)
            self.assertEqual(is_program(read(written(script))), not wanted)
            self.assertTrue(script_holds(read(written(script)), judge_script(script)))
        for script in drawn_scripts(range(150, 165)):
            self.check_near(script, play_reference.faults(script))
        for script in drawn_programs(range(100)):
            self.check(script, [])


class Refusals(unittest.TestCase):

    def test_parameters(self):
        for call, names in ((judge_script, ["script"]), (script_holds, ["script", "thing"]), (is_program, ["thing"])):
            check_parameters(self, call, names)
            self.assertEqual(call.__module__, faults.__name__)

    def test_no_scripts(self):
        for thing in ANY_VALUES + [list(BAD), BAD[:2], BAD + ((),), ((), (), (("p", (("up", "n"),)),)), ((("t", 3),), (), ())]:
            check_raises(self, BadScript, {"thing": thing}, judge_script, thing)
            for other in (("fit",), None, ("twice", (0, 1, 0)), []):
                check_raises(self, BadScript, {"thing": thing}, script_holds, thing, other)
            check_gives(self, False, is_program, thing)

    def test_examples(self):
        run_examples(self, EXAMPLES)
