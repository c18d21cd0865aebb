"""Texts of scripts: [2.2], [2.3] and narrowplay/texts.py."""

import random
import unittest

from narrowplay import texts
from narrowplay.errors import BadScript, BadText
from narrowplay.scripts import is_script
from narrowplay.texts import read, written
from tests.helpers import (ANY_VALUES, check_gives, check_parameters, check_raises, error_of, nested, run_examples,
                           with_part)
from tests.reference import first_wrong, tidied

EXAMPLES = r"""
>>> from narrowplay.scripts import is_command, is_name, is_script
>>> from narrowplay.texts import read, written
>>> DUEL = 'tape t size 2\nindex i to 1\nprocedure main\n  one chooses t[i] from ab\n  up i\n  two chooses t[i] from ab\n  if t[i] is b\n    one wins\n  end\nend'
>>> [is_name('n'), is_command(('up', 'i')), is_script(((), (), ())), written(read(DUEL)) == DUEL, read('index i to n\nprocedure p\n up i\nend')]
[False, True, True, True, ((), (('i', ((1, 1),)),), (('p', (('up', 'i'),)),))]
>>> read('index i to n\nprocedure p\nif i = i\nelse\nelse')
raises BadText(at=5)
>>> read('procedure p\ndo q')
raises BadText(at=3)
"""

ALPHABET = "abcdefghijklmnopqrstuvwxyz"

# Every kind of test and of command without commands in it, with its text.
TESTS = [
    (("is", "t", "i", "x"), "t[i] is x"),
    (("is", "t", "i", "n"), "t[i] is n"),
    (("equal", "t", "i", "u", "j"), "t[i] equals u[j]"),
    (("equal", "input", "i", "input", "i"), "input[i] equals input[i]"),
    (("empty", "t", "i"), "t[i] empty"),
    (("inside", "t", "i"), "t has i"),
    (("at", "i", "j"), "i = j"),
    (("not", ("at", "i", "i")), "not i = i"),
    (("not", ("not", ("not", ("empty", "a_1", "abcdefghijkl")))), "not not not a_1[abcdefghijkl] empty"),
    (("not", ("inside", "t", "i")), "not t has i"),
]
PLAIN = [
    (("set", "t", "i", "x"), "t[i] = x"),
    (("set", "t", "i", "n"), "t[i] = n"),
    (("set", "input", "i", "e"), "input[i] = e"),
    (("copy", "t", "i", "u", "j"), "t[i] = u[j]"),
    (("clear", "t", "i"), "t[i] = empty"),
    (("zero", "i"), "i = 0"),
    (("up", "i"), "up i"),
    (("down", "i"), "down i"),
    (("same", "i", "j"), "i = j"),
    (("do", "p"), "do p"),
    (("choose", "one", "t", "i", "x"), "one chooses t[i] from x"),
    (("choose", "two", "t", "i", "abn"), "two chooses t[i] from abn"),
    (("choose", "two", "input", "set", ALPHABET), "two chooses input[set] from " + ALPHABET),
    (("wins", "one"), "one wins"),
    (("wins", "two"), "two wins"),
]
POLYS = [((), "0"), (((0, 3),), "3"), (((1, 1),), "n"), (((0, 1), (1, 1)), "n + 1"), (((0, 5), (1, 1), (2, 3)), "3*n^2 + n + 5")]

FULL_TEXT = """tape t size n + 1
tape input size 0
tape abcdefghijkl size 12*n^12 + n^2 + 7
index i to n
index t to 3
procedure first
end
procedure main
  t[i] = x
  if not t[i] is a
    up i
    if t has i
      one wins
    else
      repeat 2*n
        repeat 0
        end
        i = 0
      end
      if i = j
      end
    end
  end
  repeat n
    if t[i] equals u[j]
    else
      t[i] = empty
      two chooses t[i] from abz
    end
    do first
  end
  i = j
end
procedure last
  t[i] = t[j]
end"""
FULL = (
    (("t", ((0, 1), (1, 1))), ("input", ()), ("abcdefghijkl", ((0, 7), (2, 1), (12, 12)))),
    (("i", ((1, 1),)), ("t", ((0, 3),))),
    (
        ("first", ()),
        ("main", (
            ("set", "t", "i", "x"),
            ("if", ("not", ("is", "t", "i", "a")), (
                ("up", "i"),
                ("if", ("inside", "t", "i"), (("wins", "one"),), (
                    ("repeat", ((1, 2),), (("repeat", (), ()), ("zero", "i"))),
                    ("if", ("at", "i", "j"), (), ()),
                )),
            ), ()),
            ("repeat", ((1, 1),), (
                ("if", ("equal", "t", "i", "u", "j"), (), (("clear", "t", "i"), ("choose", "two", "t", "i", "abz"))),
                ("do", "first"),
            )),
            ("same", "i", "j"),
        )),
        ("last", (("copy", "t", "i", "t", "j"),)),
    ),
)


def in_procedure(*lines):
    return "\n".join(("procedure p",) + lines + ("end",))


def of_commands(*commands):
    return ((), (), (("p", commands),))


class Interface(unittest.TestCase):

    def test_examples(self):
        run_examples(self, EXAMPLES)

    def test_parameters(self):
        check_parameters(self, written, ["script"])
        check_parameters(self, read, ["text"])
        self.assertEqual([written.__module__, read.__module__], [texts.__name__] * 2)


class Both(unittest.TestCase):

    def check_both(self, script, text):
        check_gives(self, text, written, script)
        check_gives(self, script, read, text)

    def test_no_lines(self):
        self.check_both(((), (), ()), "")

    def test_tapes_and_indexes(self):
        for poly, text in POLYS:
            self.check_both(((("t", poly),), (), ()), "tape t size " + text)
            self.check_both(((), (("i", poly),), ()), "index i to " + text)
            self.check_both(((("t", poly), ("u", ())), (("i", poly), ("i", ())), ()),
                            f"tape t size {text}\ntape u size 0\nindex i to {text}\nindex i to 0")

    def test_procedures(self):
        self.check_both(((), (), (("p", ()),)), "procedure p\nend")
        self.check_both(((), (), (("p", ()), ("input", ()), ("p", ()))), "procedure p\nend\nprocedure input\nend\nprocedure p\nend")

    def test_each_command(self):
        for command, line in PLAIN:
            self.check_both(of_commands(command), in_procedure("  " + line))
            self.check_both(of_commands(("repeat", ((0, 2),), (command, command))),
                            in_procedure("  repeat 2", "    " + line, "    " + line, "  end"))

    def test_each_test(self):
        for test, text in TESTS:
            self.check_both(of_commands(("if", test, (), ())), in_procedure("  if " + text, "  end"))
            self.check_both(of_commands(("if", ("not", test), (), ())), in_procedure("  if not " + text, "  end"))

    def test_each_repeat(self):
        for poly, text in POLYS:
            self.check_both(of_commands(("repeat", poly, ())), in_procedure("  repeat " + text, "  end"))

    def test_blocks_of_an_if(self):
        test, up, down = ("at", "i", "j"), ("up", "i"), ("down", "j")
        self.check_both(of_commands(("if", test, (up,), ())), in_procedure("  if i = j", "    up i", "  end"))
        self.check_both(of_commands(("if", test, (), (up,))), in_procedure("  if i = j", "  else", "    up i", "  end"))
        self.check_both(of_commands(("if", test, (up,), (down, up))),
                        in_procedure("  if i = j", "    up i", "  else", "    down j", "    up i", "  end"))

    def test_all_at_once(self):
        self.check_both(FULL, FULL_TEXT)

    def test_deep(self):
        for depth in (15, 40):
            for wrap, head in ((lambda core: ("repeat", ((1, 1),), (core,)), "repeat n"),
                               (lambda core: ("if", ("at", "i", "j"), (core,), ()), "if i = j")):
                lines = ["  " * (at + 1) + head for at in range(depth)] + ["  " * (depth + 1) + "up i"]
                lines += ["  " * (at + 1) + "end" for at in reversed(range(depth))]
                self.check_both(of_commands(nested(wrap, depth, ("up", "i"))), in_procedure(*lines))
        test = nested(lambda core: ("not", core), 15, ("at", "i", "j"))
        self.check_both(of_commands(("if", test, (), ())), in_procedure("  if " + "not " * 15 + "i = j", "  end"))

    def test_random_scripts(self):
        dice = random.Random(2)
        for _ in range(300):
            script = random_script(dice)
            self.assertTrue(is_script(script))
            text = written(script)
            self.assertEqual(read(text), script)
            self.assertIsNone(first_wrong(text))
            self.assertEqual(tidied(text), text)


class Written(unittest.TestCase):

    def test_no_scripts(self):
        wrong = [thing for thing in ANY_VALUES] + [
            list(FULL), FULL + ((),), FULL[:2], with_part(FULL, 0, list(FULL[0])), with_part(FULL, 2, list(FULL[2])),
            with_part(FULL, 0, (("t", ((0, 0),)),)), with_part(FULL, 1, (("n", ()),)), of_commands(("up", "n")),
            of_commands(["up", "i"]), of_commands(("if", ("at", "i", "j"), ())), of_commands(("wins", "three")),
            of_commands(("repeat", ((0, True),), ())), of_commands(("repeat", (), [])), FULL_TEXT,
        ]
        for thing in wrong:
            check_raises(self, BadScript, {"thing": thing}, written, thing)


class Blanks(unittest.TestCase):

    def test_beginnings_of_lines(self):
        lines = FULL_TEXT.split("\n")
        for margin in ("", " ", "   ", " " * 100):
            check_gives(self, FULL, read, "\n".join(margin + line.lstrip(" ") for line in lines))
            check_gives(self, FULL, read, "\n".join(margin + line for line in lines))

    def test_lines_of_blanks(self):
        lines = FULL_TEXT.split("\n")
        for blank in ("", " ", "    "):
            check_gives(self, FULL, read, "\n".join(line + "\n" + blank for line in lines))
            check_gives(self, FULL, read, "\n".join(blank + "\n" + line for line in lines))
            check_gives(self, FULL, read, blank + "\n\n" + FULL_TEXT + "\n\n\n" + blank)
            check_gives(self, ((), (), ()), read, blank)
            check_gives(self, ((), (), ()), read, blank + "\n" + blank + "\n")

    def test_lines_of_blanks_are_counted(self):
        check_raises(self, BadText, {"at": 4}, read, "\n  \n\nx")
        check_raises(self, BadText, {"at": 6}, read, "procedure p\n\n    \n up i\n\nup")
        check_raises(self, BadText, {"at": 5}, read, "procedure p\n\n    \n")

    def test_else_without_commands(self):
        test, up = ("at", "i", "j"), ("up", "i")
        for lines, command in (
                (("if i = j", "else", "end"), ("if", test, (), ())),
                (("if i = j", "up i", "else", "end"), ("if", test, (up,), ())),
                (("if i = j", "up i", "  else", "", "  ", "end"), ("if", test, (up,), ())),
                (("if i = j", "if i = j", "else", "end", "else", "end"), ("if", test, (("if", test, (), ()),), ())),
                (("if i = j", "else", "if i = j", "else", "up i", "end", "end"),
                 ("if", test, (), (("if", test, (), (up,)),)))):
            check_gives(self, of_commands(command), read, in_procedure(*lines))

    def test_blanks_elsewhere(self):
        lines = FULL_TEXT.split("\n")
        for at, line in enumerate(lines):
            bare = line.lstrip(" ")
            near = [bare + " ", bare + "  ", bare + "\t", "\t" + bare, bare + "\r"]
            near += [bare[:k] + " " + bare[k:] for k in range(1, len(bare))]
            near += [bare.replace(" ", "\t", 1)] if " " in bare else []
            for wrong in near:
                check_raises(self, BadText, {"at": at + 1}, read, "\n".join(with_line(lines, at, wrong)))
            # One blank less may leave a line that can stand there: "nott" and "ifi" are names.
            for k in range(len(bare)):
                if bare[k] == " ":
                    check_as_reference(self, "\n".join(with_line(lines, at, bare[:k] + bare[k + 1:])))

    def test_one_blank_less(self):
        check_raises(self, BadText, {"at": 3}, read, in_procedure("  if not i = j", "  nott[i] is a", "  end"))
        check_gives(self, of_commands(("if", ("is", "nott", "i", "a"), (), ())), read, in_procedure("if nott[i] is a", "end"))
        check_gives(self, of_commands(("same", "ifi", "j")), read, in_procedure("ifi = j"))
        check_gives(self, of_commands(("zero", "upi")), read, in_procedure("upi = 0"))


def with_line(lines, at, line):
    return lines[:at] + [line] + lines[at + 1:]


# Lines that are wrong wherever they stand.
NEVER = [
    "x", "tape", "tape t", "tape t size", "tape t size ", "tape n size 0", "tape t size 00", "tape t size 1*n", "tape t size n + 0",
    "tape t size -1", "tape t size n^1", "tape t size 1 + n", "tape t size n+1", "tape t size n + n", "tape t to 0", "tape t size 0 0",
    "Tape t size 0", "tape T size 0", "tape t u size 0", "tape size size 0", "tape t size n +", "tape t size m",
    "index", "index i", "index i to", "index i size 0", "index n to 0", "index i to 01", "index to to 1", "index i to i",
    "index abcdefghijklm to 1", "procedure", "procedure n", "procedure 0", "procedure p q", "procedure end", "procedure P",
    "procedure abcdefghijklm", "program p", "end p", "ends", "End", "end end", "else up i", "elsa", "else if i = j", "end else",
    "if", "if i", "if i = 0", "if i = n", "if not", "if not not", "if not i", "if i=j", "if i == j", "if i = j end",
    "if t[i] = a", "if t[i] is", "if t[i] is A", "if t[i] is ab", "if t[i] is empty", "if t[i] is not a", "if t[i] is u[j]",
    "if t[i] equal u[j]", "if t[i] equals a", "if t[i] equals j", "if t[i] equals u[n]", "if t[i]", "if t empty", "if t[i] empty a",
    "if t[i] is empty", "if t[i] has j", "if t has j[i]", "if t has n", "if has i", "if t has", "if i is a",
    "if t[i]] empty", "if [i] empty", "if t[] empty", "if t[i empty", "if t i] empty", "if t[i][j] empty", "if t(i) empty",
    "if not  i = j", "if i = j not", "if one wins", "repeat", "repeat 1*n", "repeat n^1", "repeat n + 0", "repeat i", "repeat 2 times",
    "repeat -1", "repeat 00", "repeat n + n^2", "do", "do n", "do do", "do p q", "do t[i]", "do 0", "up", "up n", "up 0", "up t[i]",
    "up i j", "up up", "down", "down n", "down i 1", "down down", "Up i", "zero i", "set t i a", "clear t i", "wins one", "one", "two",
    "one win", "one wins a", "three wins", "One wins", "both wins", "one two wins", "one chooses", "one chooses t[i]",
    "one chooses t[i] from", "one chooses t[i] from ", "one chooses t[i] from ba", "one chooses t[i] from aa",
    "one chooses t[i] from abA", "one chooses t[i] from a b", "one chooses t[i] from a,b", "one chooses t from ab",
    "one chooses i from ab", "one choose t[i] from ab", "three chooses t[i] from ab", "one chooses t[n] from ab",
    "one chooses n[i] from ab", "one chooses t[i] from 0", "two chooses t[i] in ab", "t[i]", "t[i] =", "t[i] = ", "t[i] = A",
    "t[i] = 0", "t[i] = ab", "t[i] = 1", "t[i] = _", "t[i] = not", "t[i] = has", "t[i] = u[n]", "t[i] = n[i]", "t[i] = u[j", "t[i] = uj]",
    "t[i] = a b", "t[i]=a", "t[n] = a", "n[i] = a", "t[0] = a", "t[i = a", "ti] = a", "t[i][j] = a", "t[] = a", "[i] = a", "t[i]] = a",
    "t[[i] = a", "t[i] = [j]", "t[i] = u[]", "t[i] is a", "t[i] equals u[j]", "t[i] empty", "empty = empty", "t[i] = empty a",
    "t[i] = Empty", "i", "i =", "i = ", "i = 1", "i = 00", "i = n", "n = 0", "n = i", "0 = i", "i = j = k", "i=0", "i = t[j]", "i = empty",
    "i = a b", "= 0", "up = down", "i <- j", "not i = j", "t has i", "#", "# end", "}", "procedure p:", "abcdefghijklm = 0",
    "t[abcdefghijklm] = a", "do abcdefghijklm", "end;", ";", ".", "0", "n", "size", "to", "from", "one wins one", "if if i = j",
    "repeat repeat n", "i = to", "to = i", "is = 0", "if is = i", "equals = 0", "has = i",
]
HEADS = ("tape t size 0", "index i to 0", "procedure p")
WITHIN = ["up i", "if i = j", "repeat n", "t[i] = a", "do p", "one wins"]


class FirstWrongLine(unittest.TestCase):

    def check_wrong(self, at, *lines):
        for more in ((), ("",), ("end",), ("x",), ("end", "end", "end", "x")):
            text = "\n".join(lines + more)
            check_raises(self, BadText, {"at": at}, read, text)
            self.assertEqual(first_wrong(text), at, text)

    def test_lines_that_are_never_right(self):
        for line in NEVER:
            for before in ((), HEADS[:1], HEADS[:2], HEADS, HEADS[2:], ("procedure p", "end"), ("procedure p", "up i"),
                           ("procedure p", "if i = j"), ("procedure p", "if i = j", "else", ""), ("procedure p", "repeat n"),
                           ("procedure p", "repeat n", "end"), ("procedure p", "end", "procedure q")):
                self.check_wrong(len(before) + 1, *before, line)
                self.check_wrong(len(before) + 1, *before, "   " + line)

    def test_order_of_parts(self):
        self.check_wrong(2, "index i to 0", "tape t size 0")
        self.check_wrong(3, "tape t size 0", "index i to 0", "tape u size 0")
        for line in HEADS[:2]:
            self.check_wrong(3, "procedure p", "end", line)
            self.check_wrong(6, *HEADS, "up i", "end", line)

    def test_outside_of_procedures(self):
        for line in WITHIN + ["end", "else"]:
            self.check_wrong(1, line)
            self.check_wrong(2, "tape t size 0", line)
            self.check_wrong(2, "index i to 0", line)
            self.check_wrong(3, "procedure p", "end", line)

    def test_within_procedures(self):
        for line in HEADS:
            self.check_wrong(2, "procedure p", line)
            self.check_wrong(3, "procedure p", "up i", line)
            self.check_wrong(3, "procedure p", "if i = j", line)
            self.check_wrong(4, "procedure p", "if i = j", "else", line)
            self.check_wrong(3, "procedure p", "repeat n", line)

    def test_else_without_if(self):
        self.check_wrong(2, "procedure p", "else")
        self.check_wrong(3, "procedure p", "up i", "else")
        self.check_wrong(3, "procedure p", "repeat n", "else")
        self.check_wrong(4, "procedure p", "if i = j", "repeat n", "else")
        self.check_wrong(4, "procedure p", "if i = j", "end", "else")

    def test_second_else(self):
        self.check_wrong(4, "procedure p", "if i = j", "else", "else")
        self.check_wrong(6, "procedure p", "if i = j", "up i", "else", "up i", "else")
        self.check_wrong(8, "procedure p", "if i = j", "else", "if i = j", "else", "end", "up i", "else")

    def test_too_many_ends(self):
        self.check_wrong(3, "procedure p", "end", "end")
        self.check_wrong(5, "procedure p", "if i = j", "end", "end", "end")
        self.check_wrong(7, "procedure p", "repeat n", "if i = j", "end", "end", "end", "end")

    def test_too_early(self):
        for lines in (
                ("procedure p",), ("procedure p", "up i"), ("procedure p", "if i = j"), ("procedure p", "if i = j", "end"),
                ("procedure p", "if i = j", "else"), ("procedure p", "repeat n"), ("procedure p", "repeat n", "up i", "end"),
                ("tape t size 0", "index i to 0", "procedure p", "up i"), ("procedure p", "end", "procedure q"),
                ("procedure p", "if i = j", "repeat n", "end", "else", "up i", "end")):
            for more in ((), ("",), ("   ",), ("", "", "")):
                check_raises(self, BadText, {"at": len(lines + more) + 1}, read, "\n".join(lines + more))

    def test_beginnings_of_a_text(self):
        lines = FULL_TEXT.split("\n")
        for many in range(len(lines)):
            text = "\n".join(lines[:many])
            if first_wrong(text) is None:
                self.assertEqual(written(read(text)), text)
            else:
                check_raises(self, BadText, {"at": max(many, 1) + 1}, read, text)

    def test_no_strings(self):
        for thing in ANY_VALUES + [["procedure p", "end"], ("",), ("procedure p\nend",), FULL, b"", None, 0]:
            if not isinstance(thing, str):
                check_raises(self, BadText, {"at": 0}, read, thing)

    def test_any_strings(self):
        for thing in ANY_VALUES:
            if isinstance(thing, str):
                check_as_reference(self, thing)

    def test_many_lines(self):
        lines = ["procedure p"] + ["repeat n"] * 300 + ["up i"]
        check_raises(self, BadText, {"at": 303}, read, "\n".join(lines))
        check_raises(self, BadText, {"at": 303}, read, "\n".join(lines + ["up n"]))
        check_raises(self, BadText, {"at": 302}, read, "\n".join(lines[:-1] + ["do"] * 500))


class NearTexts(unittest.TestCase):
    """Texts with a few changes, compared with another reader."""

    def test_changed_lines(self):
        dice = random.Random(3)
        pool = FULL_TEXT.split("\n") + NEVER[::9] + WITHIN + ["end", "else", "", "  "]
        for _ in range(3000):
            lines = FULL_TEXT.split("\n")[:dice.randint(1, 40)]
            for _ in range(dice.randint(1, 3)):
                at = dice.randrange(len(lines))
                lines[at:at + dice.randint(0, 2)] = dice.sample(pool, dice.randint(0, 2))
                lines = lines or [""]
            check_as_reference(self, "\n".join(lines))

    def test_changed_signs(self):
        dice = random.Random(4)
        for _ in range(4000):
            text = written(random_script(dice)) if dice.random() < 0.5 else FULL_TEXT
            for _ in range(dice.randint(1, 2)):
                at = dice.randrange(len(text) + 1)
                text = text[:at] + dice.choice(["", "", " ", "\n", "[", "0", "1", "_", "A"] + list("abin=")) + text[at + dice.randint(0, 1):]
            check_as_reference(self, text)


def check_as_reference(case, text):
    """Check that a string is read, or refused with the same number, as the other reader says."""
    at = first_wrong(text)
    if at is None:
        script = read(text)
        case.assertTrue(is_script(script), text)
        case.assertEqual(written(script), tidied(text), text)
    else:
        case.assertEqual(error_of(read, text), (BadText, {"at": at}), text)


def random_script(dice):
    """Return a script that is made by throwing dice."""
    def pairs():
        return tuple((dice.choice("abijptu"), dice.choice(POLYS)[0]) for _ in range(dice.randint(0, 3)))
    return (pairs(), pairs(), tuple((dice.choice("pqr"), random_block(dice, 4)) for _ in range(dice.randint(0, 3))))


def random_block(dice, depth):
    return tuple(random_command(dice, depth) for _ in range(dice.randint(0, 3)))


def random_command(dice, depth):
    sort = dice.randint(0, 3) if depth > 0 else 0
    if sort == 1:
        return ("if", dice.choice(TESTS)[0], random_block(dice, depth - 1), random_block(dice, depth - 1))
    if sort == 2:
        return ("repeat", dice.choice(POLYS)[0], random_block(dice, depth - 1))
    return dice.choice(PLAIN)[0]
