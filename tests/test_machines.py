"""Machines with bounded tapes: [10.1] to [10.4] and narrowplay/machines.py."""

import itertools
import unittest

from narrowplay import machines
from narrowplay.errors import BadMachine, BadNumber, BadStanding, BadWord
from narrowplay.machines import accepts, depth, first_standing, is_machine, is_standing, next_standing, picture, standing_of
from narrowplay.polys import is_poly, poly_text
from tests import machine_reference
from tests.helpers import (
    ANY_VALUES, check_gives, check_parameters, check_raises, run_examples, twice_part, with_part, without_part)
from tests.machine_reference import MachineDrawing, drawn_machines, standings
from tests.play_reference import value
from tests.test_plays import NO_WORDS

EXAMPLES = r"""
>>> from narrowplay.machines import accepts, depth, first_standing, is_machine, next_standing, picture, standing_of
>>> SEEK = ('machine', 'ab', (((0, 'a', 1), (1, 'b', 0)),), ((0, 1), (1, 1)))
>>> [is_machine(SEEK), depth(SEEK), first_standing(SEEK, 'ab'), next_standing(SEEK, (0, 0, 'aba')), accepts(SEEK, 'ab'), accepts(SEEK, 'aa')]
[True, ((0, 4), (1, 2)), (0, 0, 'aba'), (0, 1, 'aba'), True, False]
>>> [picture(SEEK, (0, 1, 'aba')), standing_of(SEEK, 'abanynb'), standing_of(SEEK, 'abannna')]
['abanyna', (1, 1, 'aba'), None]
"""

N1 = ((0, 1), (1, 1))
ALL = "abcdefghijklmnopqrstuvwxyz"
SEEK = ("machine", "ab", (((0, "a", 1), (1, "b", 0)),), N1)
# Two states and three signs; it turns x to y while it goes right, and rejects at z.
TURN = ("machine", "xyz", (((1, "y", 1), (0, "y", 1), (3, "z", 0)), ((0, "y", 1), (2, "y", -1), (3, "x", -1))), ((0, 3),))
ROOMS = [((0, 1),), ((0, 2),), ((0, 3),), N1, ((0, 2), (1, 1)), ((0, 1), (2, 1))]


def with_rule(rule):
    return with_part(SEEK, 2, (((0, "a", 1), rule),))


def big(many_signs, many_states, state=None, sign=None):
    """Return a machine of some size, or what would be one, in which all rules but the last are alike."""
    signs = ALL[:many_signs] if many_signs <= 26 else ALL + "{" * (many_signs - 26)
    row = ((0, "a", 1),) * many_signs
    last = row[:-1] + ((many_states + 1 if state is None else state, signs[-1] if sign is None else sign, -1),)
    return ("machine", signs, (row,) * (many_states - 1) + (last,), ((0, 1),))


RIGHT = [
    SEEK, TURN, big(2, 1), big(26, 1), big(2, 24), big(26, 24), big(3, 5, 5), big(3, 5, 6), with_rule((2, "a", -1)),
    ("machine", "az", (((0, "z", 1), (1, "a", 0)),), N1),
    with_rule((0, "b", 0)), with_rule((1, "b", 1)), with_part(SEEK, 3, ((0, 1),)), with_part(SEEK, 3, ((0, 100), (3, 100))),
    with_part(SEEK, 3, ((0, 7), (1, 1), (2, 5))), ("machine", "ny", (((0, "n", 0), (0, "y", 0)),), N1),
]
NEAR = [
    list(SEEK), SEEK[:3], SEEK[1:], SEEK + ((),), SEEK[::-1], (SEEK,), ("Machine",) + SEEK[1:], (True,) + SEEK[1:], (None,) + SEEK[1:],
    (["machine"],) + SEEK[1:], ("machine ",) + SEEK[1:], ("",) + SEEK[1:], dict(enumerate(SEEK)),
    # The signs.
    with_part(SEEK, 1, "ba"), with_part(SEEK, 1, "aa"), with_part(SEEK, 1, "a"), with_part(SEEK, 1, "b"), with_part(SEEK, 1, ""),
    with_part(SEEK, 1, "abc"), with_part(SEEK, 1, "aB"), with_part(SEEK, 1, "a1"), with_part(SEEK, 1, " a"), with_part(SEEK, 1, ("a", "b")),
    with_part(SEEK, 1, ["a", "b"]), with_part(SEEK, 1, None), ("machine", "a", (((0, "a", 1),),), N1), big(27, 1),
    ("machine", "aab", (((0, "a", 1),) * 3,), N1), ("machine", "acb", (((0, "a", 1),) * 3,), N1), ("machine", "", ((),), N1),
    # The rules.
    with_part(SEEK, 2, ()), with_part(SEEK, 2, SEEK[2][0]), with_part(SEEK, 2, list(SEEK[2])), with_part(SEEK, 2, None),
    with_part(SEEK, 2, (list(SEEK[2][0]),)), with_part(SEEK, 2, ((),)), with_part(SEEK, 2, (None,)), with_part(SEEK, 2, ("ab",)),
    with_part(SEEK, 2, (SEEK[2][0][:1],)), with_part(SEEK, 2, (SEEK[2][0] * 2,)), with_part(SEEK, 2, (SEEK[2][0], ())),
    with_part(SEEK, 2, (SEEK[2][0], SEEK[2][0][:1])), with_part(SEEK, 2, ({"a": (0, "a", 1), "b": (1, "b", 0)},)),
    big(2, 25), big(2, 24, 26), big(3, 5, 7), big(3, 5, -1), big(2, 1, 3), big(2, 1, True), big(2, 1, "0"), big(2, 1, None, "c"),
    big(2, 1, None, ""), big(2, 1, None, "ab"), big(2, 1, None, "B"), big(2, 1, None, ("a",)), big(2, 1, None, 0), big(26, 1, None, "{"),
    *[with_rule(rule) for rule in (
        (), (1, "b"), (1, "b", 0, 0), [1, "b", 0], ("b", 1, 0), (1, 0, "b"), (1, "b", 2), (1, "b", -2), (1, "b", True), (1, "b", False),
        (1, "b", "0"), (1, "b", None), (1, "b", (0,)), (True, "b", 0), (False, "b", 0), (None, "b", 0), (3, "b", 0), (-1, "b", 0),
        ((1,), "b", 0), (1, "c", 0), (1, "", 0), (1, None, 0), (1, ["b"], 0), None, "ab0", {}, ((1, "b", 0),))],
    # The room.
    *[with_part(SEEK, 3, room) for room in (
        (), ((1, 1),), ((2, 5),), ((1, 1), (2, 2)), ((0, 0),), ((0, -1),), ((0, True),), ((False, 1),), ((0, 1), (0, 1)), ((1, 1), (0, 1)),
        [(0, 1)], ([0, 1],), (0, 1), ((0, 1, 2),), ((0,),), None, 1, "n + 1", {0: 1})],
]
# Values that are no machines.
NO_MACHINES = ANY_VALUES + NEAR


class Shapes(unittest.TestCase):

    def test_machines(self):
        for machine in RIGHT:
            check_gives(self, True, is_machine, machine)
        for machine in drawn_machines(range(60), ROOMS):
            check_gives(self, True, is_machine, machine)

    def test_no_machines(self):
        for thing in NO_MACHINES:
            check_gives(self, False, is_machine, thing)

    def test_parts_left_out_and_repeated(self):
        for machine in RIGHT:
            for at in range(4):
                self.assertIs(is_machine(without_part(machine, at)), False)
                self.assertIs(is_machine(twice_part(machine, at)), False)
                for other in range(4):
                    self.assertIs(is_machine(with_part(machine, at, machine[other])), at == other)
            rules = machine[2]
            for at in range(len(rules)):
                for wrong in (without_part(rules[at], 0), twice_part(rules[at], 0), with_part(rules[at], 1, None), list(rules[at])):
                    self.assertIs(is_machine(with_part(machine, 2, with_part(rules, at, wrong))), False)


class Runs(unittest.TestCase):

    def test_first_standings(self):
        for machine, word, cells in (
                (SEEK, "", "a"), (SEEK, "b", "ba"), (SEEK, "q", "aa"), (SEEK, "abzb", "ababa"), (TURN, "", "xxx"), (TURN, "z", "zxx"),
                (TURN, "ay", "xyx"), (TURN, "zyxz", "zyx"), (TURN, "a" * 40, "xxx"), (TURN, "yyyyyyyy", "yyy"), (TURN, "xzb", "xzx"),
                (with_part(SEEK, 3, ((0, 1), (2, 1))), "bb", "bbaaa")):
            check_gives(self, (0, 0, cells), first_standing, machine, word)

    def test_next_standings(self):
        for machine, standing, after in (
                (SEEK, (0, 0, "ab"), (0, 1, "ab")), (SEEK, (0, 1, "ab"), (1, 1, "ab")), (SEEK, (0, 1, "aa"), (0, 1, "aa")),
                (SEEK, (1, 1, "ab"), (1, 1, "ab")), (SEEK, (2, 0, "ab"), (2, 0, "ab")), (SEEK, (0, 0, "b"), (1, 0, "b")),
                (SEEK, (0, 0, "a"), (0, 0, "a")), (TURN, (0, 0, "xxx"), (1, 1, "yxx")), (TURN, (1, 1, "yxx"), (0, 2, "yyx")),
                (TURN, (0, 2, "yyx"), (1, 2, "yyy")), (TURN, (1, 2, "yyy"), (2, 1, "yyy")), (TURN, (2, 1, "yyy"), (2, 1, "yyy")),
                (TURN, (1, 0, "zxy"), (3, 0, "xxy")), (TURN, (1, 0, "y"), (2, 0, "y")), (TURN, (0, 3, "xyzzx"), (3, 3, "xyzzx")),
                (TURN, (3, 2, "xyz"), (3, 2, "xyz"))):
            check_gives(self, after, next_standing, machine, standing)

    def test_against_a_second_writing(self):
        for machine in drawn_machines(range(60), ROOMS, most_signs=3) + [SEEK, TURN]:
            for width in (1, 2, 3):
                for standing in standings(machine, width):
                    after = machine_reference.following(machine, standing)
                    self.assertEqual(next_standing(machine, standing), after)
                    self.assertIs(is_standing(machine, width, after), True)

    def test_accepts(self):
        for word, wanted in (("", False), ("a", False), ("b", True), ("ab", True), ("aab", True), ("zzzb", True), ("zzz", False), ("ba", True)):
            check_gives(self, wanted, accepts, SEEK, word)
        for word, wanted in (("", True), ("xxx", True), ("z", False), ("xz", False), ("yz", False), ("yyz", False), ("yyy", False), ("xy", True)):
            self.assertEqual(machine_reference.accepts(TURN, word), wanted, word)
            check_gives(self, wanted, accepts, TURN, word)

    def test_the_first_standing_may_be_all_there_is(self):
        for state, wanted in ((0, False), (1, True), (2, False)):
            check_gives(self, wanted, accepts, ("machine", "ab", (((state, "a", 0), (state, "b", 0)),), N1), "abab")
            check_gives(self, wanted, accepts, ("machine", "ab", (((state, "a", -1), (state, "b", -1)),), N1), "")

    def test_drawn_machines(self):
        ends = {True: 0, False: 0}
        forever = 0
        for seed, machine in enumerate(drawn_machines(range(400), ROOMS)):
            drawing = MachineDrawing(seed + 1000)
            for _ in range(4):
                word = drawing.word(machine, 4)
                self.assertEqual(first_standing(machine, word), machine_reference.first(machine, word))
                found = machine_reference.comes_up(machine, first_standing(machine, word))
                wanted = found[-1][0] == len(machine[2])
                forever += found[-1][0] < len(machine[2])
                ends[wanted] += 1
                self.assertIs(accepts(machine, word), wanted)
                # There are no more standings than the depth tells.
                self.assertLessEqual(len(found), 2 ** machine_reference.depth_at(machine, len(word)))
        self.assertGreater(min(ends.values()), 200, ends)
        self.assertGreater(forever, 200)

    def test_long_runs(self):
        # A counter between two letters c, with a for 0 and b for 1: it accepts when all numbers have come up.
        counter = ("machine", "abc", (
            ((0, "a", 1), (0, "b", 1), (1, "c", 1)), ((2, "b", -1), (1, "a", 1), (3, "c", 0)), ((2, "a", -1), (2, "b", -1), (1, "c", 1))),
            ((0, 11),))
        word = "c" + "a" * 9 + "c"
        self.assertGreater(len(machine_reference.comes_up(counter, first_standing(counter, word))), 2000)
        self.assertIs(accepts(counter, word), True)
        rejecting = with_part(counter, 2, with_part(counter[2], 1, ((2, "b", -1), (1, "a", 1), (4, "c", 0))))
        self.assertIs(accepts(rejecting, word), False)
        again = with_part(counter, 2, with_part(counter[2], 1, ((2, "b", -1), (1, "a", 1), (2, "c", -1))))
        self.assertIs(accepts(again, word), False)
        wide = ("machine", "ab", (((0, "b", 1), (1, "a", -1)),), ((0, 30),))
        self.assertIs(accepts(wide, "a" * 40), True)
        self.assertIs(accepts(with_part(wide, 2, (((0, "a", 1), (2, "b", 0)),)), "a" * 29 + "b"), False)

    def test_examples(self):
        run_examples(self, EXAMPLES)


class Depths(unittest.TestCase):

    def test_depths(self):
        for signs, states, room, wanted in (
                (2, 1, N1, "2*n + 4"), (2, 2, N1, "2*n + 4"), (2, 3, N1, "2*n + 5"), (2, 6, N1, "2*n + 5"), (2, 7, N1, "2*n + 6"),
                (3, 1, ((0, 1),), "5"), (4, 1, ((0, 1),), "5"), (5, 1, ((0, 1),), "6"), (8, 14, ((0, 1),), "8"), (9, 14, ((0, 1),), "9"),
                (16, 15, ((0, 2),), "15"), (17, 24, ((0, 2),), "17"), (26, 24, ((0, 5), (3, 100)), "600*n^3 + 35"),
                (2, 1, ((0, 1), (1, 2), (2, 3)), "6*n^2 + 4*n + 4")):
            machine = with_part(big(signs, states), 3, room)
            self.assertEqual(poly_text(depth(machine)), wanted, (signs, states))
            check_gives(self, depth(machine), depth, machine)

    def test_against_all_standings(self):
        for machine in drawn_machines(range(80), ROOMS):
            self.assertTrue(is_poly(depth(machine)))
            for length in (0, 1, 2, 3, 40):
                width = value(machine[3], length)
                self.assertEqual(value(depth(machine), length), machine_reference.depth_at(machine, length))
                self.assertLessEqual((len(machine[2]) + 2) * width * len(machine[1]) ** width, 2 ** value(depth(machine), length))


class Standings(unittest.TestCase):

    def test_all_standings(self):
        for machine in (SEEK, TURN, big(3, 2)):
            for width in (1, 2, 3):
                for standing in standings(machine, width):
                    for other in range(1, 5):
                        self.assertIs(is_standing(machine, other, standing), other == width)
                    check_gives(self, machine_reference.picture(standing), picture, machine, standing)
                    check_gives(self, standing, standing_of, machine, picture(machine, standing))

    def test_values_near_standings(self):
        for thing in NEAR_STANDINGS:
            for width in (1, 2, 3, 30):
                check_gives(self, False, is_standing, SEEK, width, thing)
        for wide in ((0, 29, "a" * 30), (2, 0, "ab" * 15)):
            check_gives(self, True, is_standing, SEEK, 30, wide)
            check_gives(self, False, is_standing, SEEK, 29, wide)
        for width in (10 ** 40 - 1, 99):
            check_gives(self, False, is_standing, SEEK, width, (0, 0, "ab"))

    def test_pictures(self):
        for machine, standing, wanted in (
                (SEEK, (0, 0, "a"), "aya"), (SEEK, (2, 0, "b"), "byc"), (SEEK, (1, 3, "abba"), "abbannnyb"), (TURN, (3, 1, "zyx"), "zyxnynd"),
                (big(2, 24), (25, 0, "ab"), "abynz"), (("machine", "ny", SEEK[2][:0] + (((0, "n", 0), (0, "y", 0)),), N1), (0, 1, "yn"), "ynnya")):
            check_gives(self, wanted, picture, machine, standing)
            check_gives(self, standing, standing_of, machine, wanted)

    def test_all_short_words(self):
        ny = ("machine", "ny", (((0, "n", 0), (1, "y", 0)),), N1)
        for machine, letters in ((SEEK, "abcny"), (ny, "abny")):
            pictures = {machine_reference.picture(standing): standing for width in (1, 2, 3) for standing in standings(machine, width)}
            for many in range(0, 6):
                for word in itertools.product(letters, repeat=many):
                    self.assertEqual(standing_of(machine, "".join(word)), pictures.get("".join(word)))

    def test_words_near_pictures(self):
        for machine in (SEEK, TURN, big(5, 3)):
            for width in (1, 2, 4):
                pictures = {machine_reference.picture(standing): standing for standing in standings(machine, width)}
                for seen in list(pictures)[::1 + len(pictures) // 20]:
                    near = [seen[:at] + letter + seen[at + 1:] for at in range(len(seen)) for letter in "abcdeknxyz"]
                    near += [seen + "a", seen[1:], seen[:-1], seen * 2, seen[::-1], seen + seen[-1], "a" + seen, seen[:width] + seen]
                    for word in near:
                        if word in pictures:
                            self.assertEqual(standing_of(machine, word), pictures[word])
                        elif len(word) == 2 * width + 1:
                            check_gives(self, None, standing_of, machine, word)
        for word in ("", "a", "y", "ab", "ay", "aa", "ya", "abab", "abyna b".replace(" ", "a"), "abnna", "abyya", "abynd", "abynz", "cbyna"):
            check_gives(self, None, standing_of, SEEK, word)

    def test_any_width(self):
        # The room of a machine does not matter here: a standing is one for a tape of some number of cells.
        for room in (((0, 1),), ((0, 7),), N1):
            machine = with_part(SEEK, 3, room)
            for standing in ((0, 1, "ab"), (2, 3, "abba"), (1, 0, "b")):
                check_gives(self, True, is_standing, machine, len(standing[2]), standing)
                check_gives(self, standing, standing_of, machine, machine_reference.picture(standing))
                check_gives(self, machine_reference.following(machine, standing), next_standing, machine, standing)


NEAR_STANDINGS = ANY_VALUES + [
    (0, 0, ""), (0, 0), (0, 0, "ab", "ab"), [0, 0, "ab"], ((0, 0, "ab"),), (0, 0, ["a", "b"]), (0, 0, ("a", "b")), (0, 0, None), (0, 0, "ac"),
    (0, 0, "aB"), (0, 0, "a "), (0, 0, "a\n"), (0, 0, "0"), (3, 0, "ab"), (-1, 0, "ab"), (True, 0, "ab"), (0, True, "ab"), (False, 0, "ab"),
    (0, False, "ab"), (0, 2, "ab"), (0, -1, "ab"), (0, 3, "aba"), (0, 1, "a"), ("0", 0, "ab"), (0, "0", "ab"), (None, 0, "ab"), (0, None, "ab"),
    ("a", 0, "ab"), ("ab", 0, 0), (0, "ab", 0), (0, 0, "abq"), (10 ** 40 - 1, 0, "ab"), (0, 10 ** 40 - 1, "ab"), ((0,), 0, "ab"), "abyna",
    {"state": 0}, (0, 0, 2), (0, 0, True)]
NO_WIDTHS = [thing for thing in ANY_VALUES if isinstance(thing, bool) or not isinstance(thing, int) or thing < 1] + [0, -1, True, "1", (1,), [1]]


class Refusals(unittest.TestCase):

    def test_parameters(self):
        for call, names in (
                (is_machine, ["thing"]), (depth, ["machine"]), (first_standing, ["machine", "word"]), (accepts, ["machine", "word"]),
                (is_standing, ["machine", "width", "thing"]), (next_standing, ["machine", "standing"]), (picture, ["machine", "standing"]),
                (standing_of, ["machine", "word"])):
            check_parameters(self, call, names)
            self.assertEqual(call.__module__, machines.__name__)

    def test_no_machines(self):
        for wrong in NO_MACHINES:
            check_raises(self, BadMachine, {"thing": wrong}, depth, wrong)
            for call, more in ((first_standing, "b"), (accepts, "b"), (standing_of, "abyna"), (next_standing, (0, 0, "ab")),
                               (picture, (0, 0, "ab"))):
                for second in (more, None, "A"):
                    check_raises(self, BadMachine, {"thing": wrong}, call, wrong, second)
            for width in (2, 0, None):
                check_raises(self, BadMachine, {"thing": wrong}, is_standing, wrong, width, (0, 0, "ab"))

    def test_no_words(self):
        for call in (first_standing, accepts, standing_of):
            for wrong in NO_WORDS:
                check_raises(self, BadWord, {"thing": wrong}, call, SEEK, wrong)

    def test_no_widths(self):
        for wrong in NO_WIDTHS:
            for thing in ((0, 0, "a"), None, (0, 0, "")):
                check_raises(self, BadNumber, {"thing": wrong}, is_standing, SEEK, wrong, thing)

    def test_no_standings(self):
        for call in (next_standing, picture):
            for wrong in NEAR_STANDINGS:
                check_raises(self, BadStanding, {"thing": wrong}, call, SEEK, wrong)
