"""Programs of one player: [14.4] and narrowplay/single.py."""

import unittest

from narrowplay import single
from narrowplay.bounds import choices
from narrowplay.errors import BadProgram, BadWord, NotOfOne
from narrowplay.plans import winner
from narrowplay.polys import value_at
from narrowplay.single import is_of_one, picks_hold, winning_picks
from narrowplay.texts import read
from tests.helpers import ANY_VALUES, check_gives, check_parameters, check_raises
from tests.play_reference import Playing, numbers, program_tree
from tests.simplify_reference import drawn_of_one
from tests.test_plays import DUEL, NO_PROGRAMS, NO_WORDS

HEAD = "tape t size 3\nindex i to 2\nindex j to 1\n"


def program_of(lines):
    return read(HEAD + lines + "\nend")


# Programs of one player, words, and all picks with which one wins and which are all taken.
GAMES = [
    (((), (), ()), "", []), (((), (), ()), "ab", []), (program_of("procedure main"), "", []), (program_of("procedure main\none wins"), "x", [""]),
    (program_of("procedure main\ntwo wins"), "", []), (program_of("procedure main\none chooses t[i] from a"), "", []),
    (program_of("procedure main\none chooses t[i] from a\none wins"), "", ["a"]),
    (program_of("procedure main\none chooses t[i] from abc\nif not t[i] is b\none wins\nend"), "", ["a", "c"]),
    (program_of("procedure main\none wins\none chooses t[i] from abc"), "", [""]),
    (program_of("procedure main\nrepeat 2\none chooses t[i] from ab\nup i\nend\nif t[j] is b\none wins\nend"), "", ["ba", "bb"]),
    (program_of("procedure main\none chooses t[i] from ab\nif t[i] is b\none wins\nend\none chooses t[i] from xy\nif t[i] is y\none wins\nend"), "",
     ["ay", "b"]),
    (program_of("procedure main\nrepeat n\none chooses t[i] from ab\nif not t[i] equals input[i]\ntwo wins\nend\nup i\nend\none wins"), "ba", ["ba"]),
    (program_of("procedure main\nrepeat n\none chooses t[i] from ab\nif not t[i] equals input[i]\ntwo wins\nend\nup i\nend\none wins"), "bc", []),
    (program_of("procedure main\none chooses t[i] from no\nif t[i] is n\ntwo wins\nelse\none wins\nend"), "", ["o"]),
    (program_of("procedure p\none chooses t[i] from ab\nend\nprocedure main\ndo p\nup i\ndo p\nif t[i] equals t[j]\none wins\nend"), "", ["aa", "bb"]),
]
OF_TWO = [
    program_of("procedure main\ntwo chooses t[i] from a"), program_of("procedure main\none chooses t[i] from ab\ntwo chooses t[i] from ab"),
    program_of("procedure never\ntwo chooses t[i] from ab\nend\nprocedure main\none chooses t[i] from ab\none wins"),
    program_of("procedure main\none wins\ntwo chooses t[i] from ab"), program_of("procedure main\nrepeat 0\ntwo chooses t[i] from ab\nend\none wins"),
    program_of("procedure main\nif i = i\nelse\nrepeat n\nif i = j\ntwo chooses t[i] from b\nend\nend\nend"),
    program_of("procedure main\nif not i = i\ntwo chooses t[i] from b\nend"), DUEL,
]


class Programs(unittest.TestCase):

    def test_is_of_one(self):
        for program, _, _ in GAMES:
            check_gives(self, True, is_of_one, program)
        for program in OF_TWO:
            check_gives(self, False, is_of_one, program)
        seen = {True: 0, False: 0}
        for program in drawn_of_one(range(200)):
            wanted = "('choose', 'two', " not in repr(program)
            seen[wanted] += 1
            self.assertIs(is_of_one(program), wanted)
        self.assertGreater(min(seen.values()), 10, seen)

    def test_picks(self):
        for program, word, right in GAMES:
            found = winning_picks(program, word)
            self.assertIn(found, right or [None])
            check_gives(self, found, winning_picks, program, word)
            self.assertEqual(winner(program, word), "one" if right else "two")
            for picks in right:
                check_gives(self, True, picks_hold, program, word, picks)
            near = [picks + letter for picks in right for letter in "abcn"] + [picks[:-1] for picks in right] + [picks[1:] for picks in right]
            near += [picks[:at] + letter + picks[at + 1:] for picks in right for at in range(len(picks)) for letter in "abcnoxyzA 0"]
            near += [picks.upper() for picks in right] + [" " + picks for picks in right] + [list(picks) for picks in right]
            near += [tuple(picks) for picks in right] + [(picks,) for picks in right] + [[picks] for picks in right]
            for thing in near + ["", "a", "b", "ab", "zz"]:
                check_gives(self, thing in right, picks_hold, program, word, thing)

    def test_any_value(self):
        for program, word, right in GAMES:
            for thing in ANY_VALUES:
                check_gives(self, thing in right, picks_hold, program, word, thing)

    def test_drawn_programs(self):
        seen = {True: 0, False: 0}
        for program in drawn_of_one(range(200, 700)):
            if not is_of_one(program):
                continue
            for word in ("", "ab", "cc"):
                if numbers(program, len(word))[1] > 5:
                    continue
                found = program_tree(program, word)
                right = [picks for picks, told in found.items() if told[:2] == ("won", "one")]
                seen[right != []] += 1
                self.assertIn(winning_picks(program, word), right or [None])
                self.assertEqual(winner(program, word), "one" if right else "two")
                for picks in list(found)[::3] + right[:3]:
                    self.assertIs(picks_hold(program, word, picks), picks in right)
                    self.assertIs(picks_hold(program, word, picks + "a"), picks + "a" in right)
                    self.assertEqual(picks in right, Playing(program, word, picks).told[:2] == ("won", "one"))
                for picks in right:
                    self.assertLessEqual(len(picks), value_at(choices(program), len(word)))
        self.assertGreater(min(seen.values()), 40, seen)

    def test_long_plays(self):
        program = program_of("procedure main\nrepeat 60\none chooses t[i] from ab\nend\nif t[i] is b\none wins\nend")
        for picks in ("b" * 60, "a" * 59 + "b", "ab" * 30):
            check_gives(self, True, picks_hold, program, "", picks)
            check_gives(self, False, picks_hold, program, "", picks + "b")
            check_gives(self, False, picks_hold, program, "", picks[1:])
            check_gives(self, False, picks_hold, program, "", picks[:-1] + "a")
        program = program_of("procedure main\nrepeat 10\none chooses t[i] from ab\nif t[i] is a\nup i\nelse\ni = 0\nend\nend\nif t has i\nend\none wins")
        self.assertIs(picks_hold(program, "", winning_picks(program, "")), True)


CALLS = [(winning_picks, ()), (picks_hold, ("a",)), (picks_hold, (None,))]


class Refusals(unittest.TestCase):

    def test_parameters(self):
        for call, names in ((is_of_one, ["program"]), (winning_picks, ["program", "word"]), (picks_hold, ["program", "word", "thing"])):
            check_parameters(self, call, names)
            self.assertEqual(call.__module__, single.__name__)

    def test_no_programs(self):
        for wrong in NO_PROGRAMS:
            check_raises(self, BadProgram, {"thing": wrong}, is_of_one, wrong)
            for call, more in CALLS:
                for word in ("", None, "A"):
                    check_raises(self, BadProgram, {"thing": wrong}, call, wrong, word, *more)

    def test_not_of_one(self):
        for program in OF_TWO:
            for call, more in CALLS:
                for word in ("", "ab", None, "A", 3):
                    check_raises(self, NotOfOne, {}, call, program, word, *more)

    def test_no_words(self):
        for wrong in NO_WORDS:
            for call, more in CALLS:
                check_raises(self, BadWord, {"thing": wrong}, call, GAMES[-1][0], wrong, *more)
                check_raises(self, BadWord, {"thing": wrong}, call, ((), (), ()), wrong, *more)
