"""Names, tests, commands and scripts: [2.1] and narrowplay/scripts.py."""

import unittest

from narrowplay import scripts
from narrowplay.scripts import is_command, is_name, is_script, is_test
from tests.helpers import (ANY_VALUES, check_gives, check_parameters, nested, twice_part, with_part, without_part)

KEYWORDS = (
    "tape size index to procedure end if else repeat do one two chooses from wins is equals empty has not up down n"
).split()

ALPHABET = "abcdefghijklmnopqrstuvwxyz"

# Each sample with the kinds of its parts, the first word left out.
TESTS = [
    (("is", "t", "i", "a"), ("name", "name", "letter")),
    (("equal", "t", "i", "u", "j"), ("name", "name", "name", "name")),
    (("empty", "t", "i"), ("name", "name")),
    (("inside", "t", "i"), ("name", "name")),
    (("at", "i", "j"), ("name", "name")),
    (("not", ("at", "i", "j")), ("test",)),
    (("not", ("not", ("is", "t", "i", "n"))), ("test",)),
]
COMMANDS = [
    (("set", "t", "i", "a"), ("name", "name", "letter")),
    (("copy", "t", "i", "u", "j"), ("name", "name", "name", "name")),
    (("clear", "t", "i"), ("name", "name")),
    (("zero", "i"), ("name",)),
    (("up", "i"), ("name",)),
    (("down", "i"), ("name",)),
    (("same", "i", "j"), ("name", "name")),
    (("if", ("at", "i", "j"), (("up", "i"),), (("down", "j"), ("zero", "i"))), ("test", "block", "block")),
    (("if", ("not", ("empty", "t", "i")), (), ()), ("test", "block", "block")),
    (("repeat", ((0, 5), (1, 1)), (("up", "i"), ("wins", "two"))), ("poly", "block")),
    (("repeat", (), ()), ("poly", "block")),
    (("do", "p"), ("name",)),
    (("choose", "one", "t", "i", "ab"), ("player", "name", "name", "letters")),
    (("choose", "two", "input", "at", ALPHABET), ("player", "name", "name", "letters")),
    (("wins", "one"), ("player",)),
]

RIGHT = {
    "name": ["a", "z", "input", "a_", "x0", "set", "abcdefghijkl", "m" * 12, "ends", "n0", "nn", "at"],
    "letter": list(ALPHABET),
    "letters": ["a", "z", "n", "az", "abc", "bdn", ALPHABET, ALPHABET[1:], ALPHABET[:-1]],
    "player": ["one", "two"],
    "poly": [(), ((0, 1),), ((1, 1),), ((0, 3), (2, 1), (12, 10 ** 12))],
    "test": [sample for sample, _ in TESTS],
    "block": [(), (("up", "i"),)] + [(sample,) for sample, _ in COMMANDS] + [tuple(sample for sample, _ in COMMANDS)],
}
# Wrong values that are near to right ones; of ANY_VALUES those are wrong that wrong_values tells.
NEAR = {
    "name": ["A", "1", "_", "_a", "0a", "aB", "a-b", "a b", "a\n", " a", "a ", "m" * 13, "\u00e4", "a\u0661"] + KEYWORDS,
    "letter": ["ab", "A", "1", "_", "", " ", "a ", " a", "aa", "\u00e4", "empty", "`", "{", ("a",), ["a"]],
    "letters": ["", "ba", "aa", "aab", "abb", "acb", "bca", "aB", "A", "AB", "a b", "a1", "1", "_", ALPHABET + "a",
                ALPHABET + "z", ALPHABET + "{", "ab\n", " ab", ("a", "b"), ["a", "b"], ("a",)],
    "player": ["One", "three", "", "a", "one ", " two", "onetwo", 1, 2, 0, True, None, ("one",), ["one"], ["two"]],
    "poly": [((0, 0),), ((0, True),), ((True, 1),), ((1, 1), (0, 1)), ((0, 1), (0, 1)), [(0, 1)], ([0, 1],), [], "n", "0", 0,
             3, None, ((0, 1, 2),), (0, 1), ((-1, 1),)],
    "test": [("not",), ("is", "t", "i"), ("up", "i"), ("set", "t", "i", "a"), ("same", "i", "j"), ["at", "i", "j"],
             ("not", ["at", "i", "j"]), ("not", ("at", "i")), (("at", "i", "j"),), "at", (), ("equals", "t", "i", "u", "j"),
             ("has", "t", "i"), ("AT", "i", "j"), "i = j", True],
    "block": [("up", "i"), [("up", "i")], (["up", "i"],), (("up",),), (("up", "i"), ("up", "n")), ((("up", "i"),),),
              (("at", "i", "j"),), [], "", "up", ("",), (None,), None, True, {}, {("up", "i"): 1}, ((),)],
}


def is_any_right(thing, kind):
    """Return whether one of ANY_VALUES is right as a part of a kind."""
    if isinstance(thing, str):
        if kind == "name":
            return thing in ("a", "z", "x" * 12)
        if kind in ("letter", "letters"):
            return thing in ("a", "z", "n")
        return kind == "player" and thing == "one"
    return kind in ("poly", "block") and isinstance(thing, tuple) and thing == ()


def wrong_values(kind):
    return NEAR[kind] + [thing for thing in ANY_VALUES if not is_any_right(thing, kind)]


def wrong_variants(sample):
    """Return what comes of a test or a command by a wrong word, and by parts left out, put twice or as lists."""
    variants = [with_part(sample, 0, word) for word in (
        "", "Set", "jump", "unless", "again", "call", "end", "else", "one", "_", None, True, 0, ("up",), ["up"], {}, [])]
    for at in range(len(sample)):
        variants += [without_part(sample, at), twice_part(sample, at), with_part(sample, at, [sample[at]])]
        if isinstance(sample[at], tuple):
            variants.append(with_part(sample, at, list(sample[at])))
    variants += [sample + (None,), sample + ((),), sample + ("i",), sample + ("a",), (sample,), sample + sample, sample[::-1]]
    return variants + [list(sample), {sample[0]: sample[1:]}, sample[0], repr(sample)]


class Parameters(unittest.TestCase):

    def test_parameters(self):
        for call in (is_name, is_test, is_command, is_script):
            check_parameters(self, call, ["thing"])
            self.assertEqual(call.__module__, scripts.__name__)


class Names(unittest.TestCase):

    def test_names(self):
        for name in RIGHT["name"] + list(ALPHABET.replace("n", "")) + ["main", "turn", "copy", "abc_12_", "a0123456789_"]:
            check_gives(self, True, is_name, name)

    def test_no_names(self):
        for name in NEAR["name"] + [""]:
            check_gives(self, False, is_name, name)

    def test_keywords(self):
        self.assertEqual(len(KEYWORDS), 23)
        for word in KEYWORDS:
            check_gives(self, False, is_name, word)
            check_gives(self, True, is_name, word + "_")
            check_gives(self, True, is_name, word + "0")
            check_gives(self, word == "n", is_name, word.upper() if word != "n" else "n_")

    def test_lengths(self):
        for many in range(0, 20):
            check_gives(self, 1 <= many <= 12, is_name, "b" * many)
            check_gives(self, 2 <= many <= 12, is_name, ("b" + "_" * many)[:many] if many != 1 else "_")

    def test_every_sign(self):
        for code in range(300):
            small = 97 <= code <= 122
            check_gives(self, small and chr(code) != "n", is_name, chr(code))
            check_gives(self, small, is_name, chr(code) + "x")
            check_gives(self, small or 48 <= code <= 57 or code == 95, is_name, "x" + chr(code))
            check_gives(self, small or 48 <= code <= 57 or code == 95, is_name, "x" + chr(code) + "y")

    def test_any_value(self):
        for thing in ANY_VALUES + [["a"], ("a",), {"a": 1}]:
            check_gives(self, is_any_right(thing, "name"), is_name, thing)


class Tests(unittest.TestCase):

    def test_each_kind(self):
        for sample, _ in TESTS:
            check_gives(self, True, is_test, sample)
            check_gives(self, True, is_test, ("not", sample))

    def test_commands_are_none(self):
        for sample, _ in COMMANDS:
            check_gives(self, False, is_test, sample)
            check_gives(self, False, is_test, ("not", sample))

    def test_right_parts(self):
        for sample, kinds in TESTS:
            for at, kind in enumerate(kinds, start=1):
                for part in RIGHT[kind]:
                    check_gives(self, True, is_test, with_part(sample, at, part))

    def test_wrong_parts(self):
        for sample, kinds in TESTS:
            for at, kind in enumerate(kinds, start=1):
                for part in wrong_values(kind):
                    check_gives(self, False, is_test, with_part(sample, at, part))
                    check_gives(self, False, is_test, ("not", with_part(sample, at, part)))

    def test_wrong_forms(self):
        for sample, _ in TESTS:
            for variant in wrong_variants(sample):
                check_gives(self, False, is_test, variant)
                check_gives(self, False, is_test, ("not", variant))

    def test_words_of_others(self):
        shapes = {"is": 3, "equal": 4, "empty": 2, "inside": 2, "at": 2}
        for word in shapes:
            for many in range(6):
                check_gives(self, many == shapes[word] and word != "is", is_test, (word,) + ("z1",) * many)
                check_gives(self, many == shapes[word], is_test, (word,) + ("z",) * many)

    def test_deep(self):
        for depth in (1, 14, 15, 60):
            check_gives(self, True, is_test, nested(lambda core: ("not", core), depth, ("at", "i", "j")))
            for core in (("at", "i"), ("at", "i", "n"), ["at", "i", "j"], None, (), "not", ("not",), ("up", "i")):
                check_gives(self, False, is_test, nested(lambda core: ("not", core), depth, core))

    def test_any_value(self):
        for thing in ANY_VALUES:
            check_gives(self, False, is_test, thing)


class Commands(unittest.TestCase):

    def test_each_kind(self):
        for sample, _ in COMMANDS:
            check_gives(self, True, is_command, sample)

    def test_tests_are_none(self):
        for sample, _ in TESTS:
            check_gives(self, False, is_command, sample)

    def test_right_parts(self):
        for sample, kinds in COMMANDS:
            for at, kind in enumerate(kinds, start=1):
                for part in RIGHT[kind]:
                    check_gives(self, True, is_command, with_part(sample, at, part))

    def test_wrong_parts(self):
        for sample, kinds in COMMANDS:
            for at, kind in enumerate(kinds, start=1):
                for part in wrong_values(kind):
                    check_gives(self, False, is_command, with_part(sample, at, part))

    def test_wrong_forms(self):
        for sample, _ in COMMANDS:
            for variant in wrong_variants(sample):
                check_gives(self, False, is_command, variant)

    def test_wrong_in_blocks(self):
        wrong = [variant for sample, _ in COMMANDS for variant in wrong_variants(sample)]
        wrong += [with_part(sample, at, part) for sample, kinds in COMMANDS for at, kind in enumerate(kinds, start=1)
                  for part in NEAR[kind]]
        for command in wrong:
            for block in ((command,), (("up", "i"), command), (command, ("up", "i"))):
                for within in within_blocks(block):
                    check_gives(self, False, is_command, within)

    def test_deep(self):
        wraps = (
            lambda core: ("if", ("at", "i", "j"), (core,), ()), lambda core: ("if", ("at", "i", "j"), (), (core,)),
            lambda core: ("repeat", ((1, 1),), (("up", "i"), core)),
        )
        for wrap in wraps:
            for depth in (1, 14, 15, 60):
                check_gives(self, True, is_command, nested(wrap, depth, ("wins", "two")))
                for core in (("wins", "three"), ("wins",), ["wins", "two"], None, (), ("at", "i", "j")):
                    check_gives(self, False, is_command, nested(wrap, depth, core))

    def test_any_value(self):
        for thing in ANY_VALUES:
            check_gives(self, False, is_command, thing)


def within_blocks(block):
    """Return commands that have a block at each place where a command can have one."""
    return [
        ("if", ("at", "i", "j"), block, ()), ("if", ("at", "i", "j"), (), block), ("repeat", ((1, 1),), block),
        ("if", ("at", "i", "j"), (("up", "i"),), (("up", "i"), ("repeat", (), block))),
    ]


ONE = ((("t", ((0, 2),)), ("u", ())), (("i", ((1, 1),)),), (("p", (("up", "i"),)), ("main", ())))


class Scripts(unittest.TestCase):

    def test_scripts(self):
        every = tuple(sample for sample, _ in COMMANDS)
        for script in (
                ((), (), ()), ONE, ((("t", ()),), (), ()), ((), (("i", ((0, 1),)),), ()), ((), (), (("p", ()),)),
                ((), (), (("p", every),)), ((("t", ()), ("t", ())), (("i", ()), ("t", ())), (("t", ()), ("t", ()))),
                ((("input", ()),), (), (("p", (("do", "q"), ("do", "p"))),))):
            check_gives(self, True, is_script, script)

    def test_names_and_polynomials(self):
        for part in range(3):
            value = "block" if part == 2 else "poly"
            for at in range(len(ONE[part])):
                for place, kind in ((0, "name"), (1, value)):
                    for right in RIGHT[kind]:
                        check_gives(self, True, is_script, changed(part, at, place, right))
                    for wrong in wrong_values(kind):
                        check_gives(self, False, is_script, changed(part, at, place, wrong))

    def test_wrong_pairs(self):
        for part in range(3):
            for at in range(len(ONE[part])):
                pair = ONE[part][at]
                wrong = [list(pair), pair + (None,), pair + ((),), pair[:1], pair[1:], (pair,), pair[::-1], pair * 2, pair[0],
                         {pair[0]: pair[1]}, (list(pair[:1]), pair[1]), (pair[0], list(pair[1]))]
                for thing in wrong + ANY_VALUES:
                    check_gives(self, False, is_script, with_part(ONE, part, with_part(ONE[part], at, thing)))

    def test_pairs_left_out_or_put_twice(self):
        for part in range(3):
            for at in range(len(ONE[part])):
                check_gives(self, True, is_script, with_part(ONE, part, without_part(ONE[part], at)))
                check_gives(self, True, is_script, with_part(ONE, part, twice_part(ONE[part], at)))

    def test_wrong_forms(self):
        for part in range(3):
            for wrong in [list(ONE[part]), dict(ONE[part]), ONE[part][0], [], {}, None, "", 0, True]:
                check_gives(self, False, is_script, with_part(ONE, part, wrong))
            check_gives(self, False, is_script, without_part(ONE, part))
            check_gives(self, False, is_script, twice_part(ONE, part))
        for wrong in (list(ONE), ONE + ((),), ((), ()), ((), (), (), ()), (ONE,), [(), (), ()], ((), (), []), ONE * 2, "", ()):
            check_gives(self, False, is_script, wrong)

    def test_wrong_commands(self):
        for sample, _ in COMMANDS:
            for variant in wrong_variants(sample):
                check_gives(self, False, is_script, with_part(ONE, 2, (("p", (("up", "i"), variant)), ("q", ()))))
                check_gives(self, False, is_script, with_part(ONE, 2, (("q", ()), ("p", (variant,)))))
        for sample, _ in TESTS:
            check_gives(self, False, is_script, with_part(ONE, 2, (("p", (sample,)),)))

    def test_any_value(self):
        for thing in ANY_VALUES:
            check_gives(self, False, is_script, thing)
            for part in range(3):
                right = isinstance(thing, tuple) and thing == ()
                check_gives(self, right, is_script, with_part(ONE, part, thing))


def changed(part, at, place, value):
    """Return the script ONE with another name, polynomial or block in one of its pairs."""
    return with_part(ONE, part, with_part(ONE[part], at, with_part(ONE[part][at], place, value)))
