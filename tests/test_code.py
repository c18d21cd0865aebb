"""The shape of code, and which code is accepted: [7.1] to [7.3] and narrowplay/code.py."""

import unittest

from narrowplay import code
from narrowplay.code import code_holds, is_accepted, is_code, judge_code
from narrowplay.errors import BadShape
from tests import code_reference
from tests.drawn import drawn_code, spoiled
from tests.helpers import (ANY_VALUES, check_gives, check_parameters, check_raises, nested, run_examples, twice_part, with_part,
                           without_part)
from tests.test_scripts import NEAR, RIGHT, is_any_right

EXAMPLES = r"""
>>> from narrowplay.code import code_holds, is_accepted, judge_code
>>> from narrowplay.codebounds import code_cells, code_choices, code_clock, code_depth
>>> PICKS = ((((1, 1),), ((1, 1),)), (((1, 1),),), ((("repeat", ((1, 1),), 3), ("choose", "one", 1, 0, "ab"), ("up", 0), ("again", 0), ("unless", ("equal", 0, 0, 1, 0), 6), ("wins", "one")),))
>>> [judge_code(PICKS), code_clock(PICKS), code_choices(PICKS), code_cells(PICKS), code_depth(PICKS)]
[('accepted',), ((0, 3), (1, 3)), ((1, 1),), ((0, 2), (1, 3)), 1]
>>> [judge_code((PICKS[0], PICKS[1], ((("set", 0, 0, "a"),),))), judge_code((PICKS[0], PICKS[1], ((("repeat", ((0, 2),), 1), ("again", 1)),))), judge_code((PICKS[0], PICKS[1], ((("repeat", ((0, 2),), 2), ("jump", 3), ("again", 0)),))), judge_code((PICKS[0], (), ((("call", 0),),)))]
[('refused', 0, 0, 'input'), ('refused', 0, 0, 'loop'), ('refused', 0, 1, 'jump'), ('refused', 0, 0, 'number')]
"""

INPUT = ((1, 1),)
TWO = ((0, 2),)
# Three tapes and two indexes.
TAPES = (INPUT, TWO, ())
INDEXES = (TWO, INPUT)
UP = ("up", 0)
AT = ("at", 0, 1)

TESTS = [
    (("is", 0, 0, "a"), ("number", "number", "letter")),
    (("equal", 0, 1, 1, 0), ("number",) * 4),
    (("empty", 1, 0), ("number", "number")),
    (("inside", 2, 1), ("number", "number")),
    (("at", 1, 0), ("number", "number")),
    (("not", ("at", 1, 1)), ("test",)),
    (("not", ("not", ("is", 1, 0, "n"))), ("test",)),
]
ROWS = [
    (("set", 1, 0, "a"), ("number", "number", "letter")),
    (("copy", 1, 0, 0, 1), ("number",) * 4),
    (("clear", 2, 1), ("number", "number")),
    (("zero", 0), ("number",)),
    (("up", 1), ("number",)),
    (("down", 0), ("number",)),
    (("same", 0, 1), ("number", "number")),
    (("choose", "two", 1, 0, "ab"), ("player", "number", "number", "letters")),
    (("wins", "one"), ("player",)),
    (("jump", 7), ("number",)),
    (("unless", AT, 0), ("test", "number")),
    (("unless", ("not", ("equal", 0, 1, 1, 0)), 3), ("test", "number")),
    (("repeat", ((0, 1), (2, 3)), 5), ("poly", "number")),
    (("again", 2), ("number",)),
    (("call", 4), ("number",)),
]
RIGHT_PARTS = dict(RIGHT, number=[0, 1, 2, 11, 12, 10 ** 39], test=[sample for sample, _ in TESTS])
NEAR_PARTS = dict(NEAR, number=[-1, -2, -10 ** 30, True, False, None, "0", "1", "i", "t", "", (0,), [0], {}, (), ((0, 1),)], test=[
    ("not",), ("is", 0, 0), ("up", 0), ("set", 0, 0, "a"), ("same", 0, 1), ["at", 0, 1], ("not", ["at", 0, 1]), ("not", ("at", 0)), ((),),
    (("at", 0, 1),), "at", (), ("AT", 0, 1), True, ("at", "i", "j"), ("is", "t", "i", "a"), ("jump", 1), ("not", AT, AT), ("not", "at"),
    ("at", 0, True), ("not", ("at", False, 0)), ("is", 0, 0, "ab"), ("is", -1, 0, "a"), ("empty", 0, -1), 0])


def wrong_parts(kind):
    if kind == "number":
        any_wrong = [thing for thing in ANY_VALUES if not (isinstance(thing, int) and not isinstance(thing, bool) and thing >= 0)]
    else:
        any_wrong = [thing for thing in ANY_VALUES if not is_any_right(thing, kind)]
    return NEAR_PARTS[kind] + any_wrong


def wrong_forms(sample):
    """Return what comes of a row or a test by a wrong word, and by parts left out, put twice or as lists."""
    found = [with_part(sample, 0, word) for word in (
        "", "Set", "if", "do", "end", "loop", "goto", "_", None, True, 0, ("up",), ["up"], {}, [], "set ", "procedure")]
    for at in range(len(sample)):
        found += [without_part(sample, at), twice_part(sample, at), with_part(sample, at, [sample[at]])]
        if isinstance(sample[at], tuple):
            found.append(with_part(sample, at, list(sample[at])))
    found += [sample + (None,), sample + (0,), sample + ((),), sample + ("a",), (sample,), sample + sample, sample[::-1]]
    return found + [list(sample), {sample[0]: sample[1:]}, sample[0], repr(sample), (), None, []]


def of_rows(*rows):
    """Return code with one routine."""
    return (TAPES, INDEXES, (rows,))


class Shapes(unittest.TestCase):

    def check(self, wanted, thing):
        check_gives(self, wanted, is_code, thing)
        if not wanted:
            check_gives(self, False, is_accepted, thing)
            check_raises(self, BadShape, {"thing": thing}, judge_code, thing)

    def check_rows(self, wanted, row):
        """Check code with a row among others."""
        self.check(wanted, of_rows(row))
        self.check(wanted, (TAPES, (), ((UP, row), (), (row, row, UP))))

    def test_rows(self):
        self.check(True, of_rows(*[sample for sample, _ in ROWS]))
        for sample, kinds in ROWS:
            self.check_rows(True, sample)
            for at, kind in enumerate(kinds, start=1):
                for part in RIGHT_PARTS[kind]:
                    self.check_rows(True, with_part(sample, at, part))

    def test_wrong_rows(self):
        for sample, kinds in ROWS:
            for form in wrong_forms(sample):
                self.check_rows(False, form)
            for at, kind in enumerate(kinds, start=1):
                for part in wrong_parts(kind):
                    self.check(False, of_rows(UP, with_part(sample, at, part)))

    def test_tests(self):
        for sample, kinds in TESTS:
            self.check_rows(True, ("unless", sample, 1))
            for at, kind in enumerate(kinds, start=1):
                for part in RIGHT_PARTS[kind]:
                    self.check(True, of_rows(("unless", with_part(sample, at, part), 1)))
                for part in wrong_parts(kind):
                    self.check(False, of_rows(("unless", with_part(sample, at, part), 1)))
                    self.check(False, of_rows(UP, ("unless", ("not", with_part(sample, at, part)), 1)))
            for form in wrong_forms(sample):
                self.check(False, of_rows(("unless", form, 1)))
                self.check(False, of_rows(("unless", ("not", form), 1)))

    def test_deep_tests(self):
        for depth in (1, 14, 15, 60):
            self.check(True, of_rows(("unless", nested(lambda core: ("not", core), depth, AT), 1)))
            for core in (("at", 0), ["at", 0, 1], None, (), "not", ("not",), ("up", 0), ("at", "i", "j")):
                self.check(False, of_rows(("unless", nested(lambda core: ("not", core), depth, core), 1)))

    def test_commands_and_tests_are_no_rows(self):
        for row in (("if", AT, (), ()), ("repeat", TWO, ()), ("do", "p"), ("do", 0), ("set", "t", "i", "a"), ("up", "i"), AT, ("not", AT),
                    ("choose", "one", "t", "i", "ab"), ("is", 0, 0, "a"), ("end",), ("else",)):
            self.check_rows(False, row)

    def test_words_with_other_parts(self):
        shapes = {"set": 3, "copy": 4, "clear": 2, "zero": 1, "up": 1, "down": 1, "same": 2, "jump": 1, "unless": 2, "again": 1, "call": 1,
                  "wins": 1, "choose": 4, "repeat": 2}
        for word, many in shapes.items():
            for parts in range(6):
                right = parts == many and word not in ("set", "unless", "wins", "choose", "repeat")
                self.check(right, of_rows((word,) + (0,) * parts))

    def test_tapes(self):
        for first in [(), ((0, 1),), ((1, 2),), ((0, 1), (1, 1)), ((1, 1), (2, 1)), ((2, 1),), [(1, 1)], ([1, 1],), ((1, True),), ((True, 1),),
                      ((True, True),), None, 1, "n", (1, 1), ((1, 1, 1),), ((1, 1),) * 2]:
            self.check(False, ((first,), (), ()))
            self.check(False, ((first, INPUT), (), ()))
            self.check(False, ((first,), INDEXES, ((UP,),)))
        self.check(False, ((), (), ()))
        self.check(False, ((), INDEXES, ((UP,),)))
        for poly in RIGHT["poly"]:
            self.check(True, ((INPUT, poly), (), ()))
            self.check(True, ((INPUT, INPUT, poly), (poly,), ()))
            self.check(True, ((INPUT,), (poly, INPUT, poly), ()))
        for poly in wrong_parts("poly"):
            self.check(False, ((INPUT, poly), (), ()))
            self.check(False, ((poly,), (), ()))
            self.check(False, ((INPUT, INPUT, poly), INDEXES, ()))
            self.check(False, ((INPUT,), (poly,), ()))
            self.check(False, ((INPUT,), (INPUT, poly, INPUT), ((UP,),)))

    def test_routines(self):
        for routines in ((), ((),), ((), ()), ((UP,),), ((UP,), (), (UP, UP))):
            self.check(True, (TAPES, INDEXES, routines))
        for wrong in [UP, [UP], [], {}, None, "", "up", 0, True, (UP, None), (UP, [UP]), ((UP,),), ("up",), (None,), ([],), {UP: 1}, ((),)]:
            self.check(False, (TAPES, INDEXES, (wrong,)))
            self.check(False, (TAPES, INDEXES, ((UP,), wrong, ())))

    def test_forms(self):
        whole = (TAPES, INDEXES, ((UP,),))
        for part in range(3):
            for wrong in [list(whole[part]), whole[part][0], dict(enumerate(whole[part])), [], {}, None, "", 0, True]:
                if not (part == 1 and wrong == TWO) and not (part == 2 and wrong == (UP,)):
                    self.check(False, with_part(whole, part, wrong))
            self.check(False, without_part(whole, part))
            self.check(False, twice_part(whole, part))
        for wrong in (list(whole), whole + ((),), (whole,), whole * 2, whole[::-1], (), ((), ()), ((), (), (), ()), [(), (), ()], TAPES):
            self.check(False, wrong)

    def test_any_value(self):
        for thing in ANY_VALUES:
            self.check(False, thing)
            for part in range(3):
                right = part > 0 and isinstance(thing, tuple) and thing in ((), ((),))
                self.check(right, with_part((TAPES, INDEXES, ((UP,),)), part, thing))


def near_certificates(certificate):
    """Return values that are near to a certificate."""
    found = [list(certificate), certificate + (None,), certificate + ((),), (certificate,), certificate[:-1], certificate[::-1],
             certificate * 2, {certificate[0]: certificate[1:]}, certificate[0], None, True, (), ("accepted",), ("accepted", 0),
             ("Accepted",), ("refused",), "accepted", ["accepted"], ("refused", 0, 0), with_part(certificate, 0, None),
             with_part(certificate, 0, certificate[0].upper()), with_part(certificate, 0, [certificate[0]])]
    if len(certificate) == 4:
        word, number, at, reason = certificate
        for other in ("number", "input", "loop", "jump", "", "Loop", None, True, [reason], 0):
            found.append((word, number, at, other))
        for one in (number, number + 1, number - 1, bool(number), str(number), None, [number]):
            for two in (at, at + 1, at - 1, bool(at), str(at), None, (at,)):
                found.append((word, one, two, reason))
        found += [(word, (number, at), reason), (word, number, at, reason, reason), (word, at, number, reason), (word, reason, number, at)]
    return found


class Certificates(unittest.TestCase):

    def check(self, shape, wanted):
        self.assertEqual(code_reference.certificate(shape), wanted, shape)
        check_gives(self, wanted, judge_code, shape)
        check_gives(self, wanted == ("accepted",), is_accepted, shape)
        check_gives(self, True, code_holds, shape, wanted)

    def check_near(self, shape, wanted):
        self.check(shape, wanted)
        for thing in near_certificates(wanted) + ANY_VALUES:
            check_gives(self, repr(thing) == repr(wanted), code_holds, shape, thing)

    def check_reason(self, reason, at, *rows):
        """Check in several places the reason why a row of a routine is faulty, None if no row is."""
        if reason is None:
            self.check(of_rows(*rows), ("accepted",))
            self.check((TAPES, INDEXES, ((), rows, ())), ("accepted",))
        else:
            self.check(of_rows(*rows), ("refused", 0, at, reason))
            self.check((TAPES, INDEXES, ((UP,), rows, (("set", 0, 0, "a"),))), ("refused", 1, at, reason))

    def test_numbers(self):
        # The places of tapes and of indexes in each kind of row and of test.
        tests = [(("is", 0, 0, "a"), (1,), (2,)), (("equal", 0, 0, 0, 0), (1, 3), (2, 4)), (("empty", 0, 0), (1,), (2,)),
                 (("inside", 0, 0), (1,), (2,)), (("at", 0, 0), (), (1, 2))]
        rows = [(("set", 1, 0, "a"), (1,), (2,)), (("copy", 1, 0, 0, 0), (1, 3), (2, 4)), (("clear", 1, 0), (1,), (2,)), (("zero", 0), (), (1,)),
                (("up", 0), (), (1,)), (("down", 0), (), (1,)), (("same", 0, 0), (), (1, 2)), (("choose", "one", 1, 0, "ab"), (2,), (3,))]
        for sample, tapes, indexes in rows:
            for places, most in ((tapes, 3), (indexes, 2)):
                for place in places:
                    for number in range(1 if places == tapes else 0, 6):
                        row = with_part(sample, place, number)
                        self.check_reason(None if number < most else "number", 1, UP, row, UP)
        for sample, tapes, indexes in tests:
            for places, most in ((tapes, 3), (indexes, 2)):
                for place in places:
                    for number in list(range(6)) + [10 ** 20]:
                        for nots in (0, 1, 2, 15):
                            test = nested(lambda core: ("not", core), nots, with_part(sample, place, number))
                            self.check_reason(None if number < most else "number", 1, UP, ("unless", test, 2))

    def test_numbers_without_indexes(self):
        for row in (UP, ("zero", 0), ("set", 1, 0, "a"), ("unless", ("at", 0, 0), 1), ("unless", ("empty", 0, 0), 1)):
            self.check_near((TAPES, (), ((row,),)), ("refused", 0, 0, "number"))
        self.check_near((TAPES, (), ((("wins", "one"), ("jump", 2)),)), ("accepted",))
        self.check_near(((INPUT,), INDEXES, ((("copy", 1, 0, 0, 0),),)), ("refused", 0, 0, "number"))
        self.check_near(((INPUT,), INDEXES, ((("copy", 0, 0, 1, 0),),)), ("refused", 0, 0, "number"))

    def test_calls(self):
        for many in range(1, 5):
            for number in range(many):
                for called in range(6):
                    routines = tuple((UP, ("call", called)) if at == number else (UP,) for at in range(many))
                    wanted = ("accepted",) if called < number else ("refused", number, 1, "number")
                    self.check((TAPES, INDEXES, routines), wanted)

    def test_input(self):
        for row in (("set", 0, 0, "a"), ("copy", 0, 0, 1, 1), ("copy", 0, 0, 0, 0), ("clear", 0, 1), ("choose", "one", 0, 0, "a"),
                    ("choose", "two", 0, 1, "ab")):
            self.check_reason("input", 0, row)
            self.check_reason("input", 2, UP, UP, row, row)
            self.check_near(of_rows(UP, row), ("refused", 0, 1, "input"))
        for row in (("copy", 1, 0, 0, 0), ("unless", ("is", 0, 0, "a"), 1), ("zero", 0), ("same", 0, 0), ("set", 1, 0, "a"),
                    ("choose", "one", 2, 0, "a"), ("clear", 2, 0)):
            self.check_reason(None, 0, row)

    def test_loops_not_matched(self):
        for last in (0, 2, 3, 10 ** 20):
            self.check_reason("loop", 0, ("repeat", TWO, last), ("again", 0), UP)
        self.check_reason(None, 0, ("repeat", TWO, 1), ("again", 0), UP)
        self.check_reason(None, 0, ("repeat", TWO, 2), UP, ("again", 0))
        self.check_reason("loop", 1, UP, ("repeat", TWO, 2), ("again", 0))
        self.check_reason("loop", 1, UP, ("repeat", TWO, 1), ("again", 1))
        self.check_reason("loop", 1, UP, ("repeat", TWO, 0), ("again", 1))
        self.check_reason("loop", 0, ("again", 1), ("repeat", TWO, 0))
        self.check_reason("loop", 0, ("again", 0))
        self.check_reason("loop", 1, UP, ("again", 0))
        self.check_reason("loop", 1, UP, ("again", 7))
        self.check_reason("loop", 2, ("repeat", TWO, 1), ("again", 0), ("again", 0))
        self.check_reason("loop", 1, ("repeat", TWO, 2), ("again", 0), ("again", 0))
        self.check_reason("loop", 0, ("repeat", TWO, 1), UP)
        self.check_reason("loop", 0, ("repeat", TWO, 1), ("repeat", TWO, 2), ("again", 1))
        self.check_reason("loop", 0, ("repeat", TWO, 2), ("repeat", TWO, 2), ("again", 1))
        self.check_reason("loop", 1, ("repeat", TWO, 2), ("repeat", TWO, 2), ("again", 0))
        self.check_reason("loop", 0, ("repeat", TWO, 1))
        self.check_reason("loop", 0, ("repeat", TWO, 0))

    def test_loops_that_cross(self):
        two = TWO
        self.check_reason("loop", 1, ("repeat", two, 2), ("repeat", two, 3), ("again", 0), ("again", 1))
        self.check_reason("loop", 2, ("repeat", two, 4), UP, ("repeat", two, 5), UP, ("again", 0), ("again", 2))
        self.check_reason(None, 0, ("repeat", two, 3), ("repeat", two, 2), ("again", 1), ("again", 0))
        self.check_reason(None, 0, ("repeat", two, 1), ("again", 0), ("repeat", two, 3), ("again", 2))
        self.check_reason(None, 0, ("repeat", two, 5), ("repeat", two, 2), ("again", 1), ("repeat", two, 4), ("again", 3), ("again", 0))
        # The third one crosses the first one, and lies apart from the second one.
        self.check_reason("loop", 3, ("repeat", two, 4), ("repeat", two, 2), ("again", 1), ("repeat", two, 5), ("again", 0), ("again", 3))
        # The second one crosses the first one, and the third one lies within both of them.
        self.check_reason("loop", 1, ("repeat", two, 4), ("repeat", two, 5), ("repeat", two, 3), ("again", 2), ("again", 0), ("again", 1))
        # The third one crosses the second one, which crosses none.
        self.check_reason("loop", 2, ("repeat", two, 5), ("repeat", two, 3), ("repeat", two, 4), ("again", 1), ("again", 2), ("again", 0))
        # One that is not matched crosses none.
        self.check_reason("loop", 0, ("repeat", two, 2), ("repeat", two, 3), UP, ("again", 1))
        # A row is faulty also if the repeat that it crosses is faulty by itself.
        self.check_reason("jump", 0, ("jump", 0), ("repeat", two, 3), ("repeat", two, 4), ("again", 1), ("again", 2))

    def test_jumps(self):
        for row in (lambda target: ("jump", target), lambda target: ("unless", AT, target)):
            for at in range(4):
                for target in range(8):
                    rows = with_part((UP,) * 4, at, row(target))
                    self.check_reason(None if at < target <= 4 else "jump", at, *rows)

    def test_jumps_and_bodies(self):
        # Rows 2 to 6 are the body of the first repeat, rows 4 and 5 that of the one within it, and rows 8 and 9 of another one.
        rows = (UP, ("repeat", TWO, 6), UP, ("repeat", TWO, 5), UP, ("again", 3), ("again", 1), ("repeat", TWO, 9), UP, ("again", 7), UP)
        self.check_reason(None, 0, *rows)
        inside = ["", "", "a", "a", "ab", "ab", "a", "", "c", "c", "", ""]
        for row in (lambda target: ("jump", target), lambda target: ("unless", AT, target)):
            for at in (0, 2, 4, 8, 10):
                for target in range(14):
                    right = at < target < len(inside) and inside[at] == inside[target]
                    self.check_reason(None if right else "jump", at, *with_part(rows, at, row(target)))

    def test_jump_from_the_last_row_of_a_body(self):
        # The last row of a body is an again, so that the nearest jump is the row before it.
        for target in range(6):
            self.check_reason(None if target == 3 else "jump", 2, ("repeat", TWO, 3), UP, ("jump", target), ("again", 0), UP)
        for target in range(5):
            self.check_reason(None if target in (1, 3, 4) else "jump", 0, ("jump", target), ("repeat", TWO, 2), ("again", 1), UP)

    def test_jump_before_loops_that_cross(self):
        # The bodies are what [7.2] says, also those of repeats that are faulty, but later.
        rows = (("repeat", TWO, 4), ("repeat", TWO, 5), UP, UP, ("again", 0), ("again", 1))
        for target in range(8):
            shifted = (("jump", target),) + tuple(
                (row[0], row[1], row[2] + 1) if row[0] == "repeat" else ("again", row[1] + 1) if row[0] == "again" else row for row in rows)
            self.check_reason("loop" if target in (1, 7) else "jump", 2 if target in (1, 7) else 0, *shifted)
        inner = (("repeat", TWO, 3), ("jump", 2), ("repeat", TWO, 4), ("again", 0), ("again", 2))
        self.check_reason("loop", 2, *inner)
        self.check_reason("jump", 1, *with_part(inner, 1, ("jump", 4)))

    def test_two_reasons(self):
        self.check_reason("number", 0, ("set", 0, 2, "a"))
        self.check_reason("number", 0, ("copy", 0, 0, 3, 0))
        self.check_reason("number", 0, ("clear", 0, 9))
        self.check_reason("number", 0, ("choose", "one", 0, 2, "a"))
        self.check_reason("number", 0, ("unless", ("is", 3, 0, "a"), 0))
        self.check_reason("number", 0, ("unless", ("not", ("at", 0, 2)), 9))
        self.check_reason("jump", 0, ("unless", ("not", ("at", 0, 1)), 9))

    def test_several_faulty_rows(self):
        wrong = [(("up", 2), "number"), (("set", 0, 0, "a"), "input"), (("again", 9), "loop"), (("jump", 0), "jump")]
        for one, reason in wrong:
            for two, _ in wrong:
                self.check_reason(reason, 1, UP, one, two)
                self.check((TAPES, INDEXES, ((UP,), (), (UP, UP, one), (two,), (two, two))), ("refused", 2, 2, reason))
                self.check_near((TAPES, INDEXES, ((UP,), (UP, one, two), (two,))), ("refused", 1, 1, reason))

    def test_routines_without_rows(self):
        for routines in ((), ((),), ((), ()), ((), (("call", 0),)), ((UP,), ())):
            self.check_near((TAPES, INDEXES, routines), ("accepted",))
            self.check(((INPUT,), INDEXES, routines), ("accepted",))
        self.check_near(((INPUT,), (), ()), ("accepted",))

    def test_drawn_code(self):
        seen = {"accepted": 0, "number": 0, "input": 0, "loop": 0, "jump": 0}
        for at, accepted in enumerate(drawn_code(range(120))):
            self.check(accepted, ("accepted",))
            for times in range(5 if any(accepted[2]) else 0):
                shape = accepted
                for turn in range(times + 1):
                    shape = spoiled(shape, 100 * at + 10 * times + turn)
                wanted = code_reference.certificate(shape)
                seen[wanted[-1]] += 1
                self.check(shape, wanted)
        self.assertGreater(min(seen.values()), 10, seen)


class Refusals(unittest.TestCase):

    def test_parameters(self):
        for call, names in ((is_code, ["thing"]), (is_accepted, ["thing"]), (judge_code, ["shape"]), (code_holds, ["shape", "thing"])):
            check_parameters(self, call, names)
            self.assertEqual(call.__module__, code.__name__)

    def test_no_code(self):
        for wrong in ANY_VALUES + [((), (), ()), (TAPES, INDEXES), list(of_rows(UP)), of_rows(["up", 0]), of_rows(("up", True))]:
            check_raises(self, BadShape, {"thing": wrong}, judge_code, wrong)
            for thing in (("accepted",), None, ("refused", 0, 0, "loop"), wrong):
                check_raises(self, BadShape, {"thing": wrong}, code_holds, wrong, thing)

    def test_examples(self):
        run_examples(self, EXAMPLES)
