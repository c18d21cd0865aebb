"""The narrow machine and plans for code: [8.3] to [8.5] and narrowplay/narrow.py."""

import unittest

from narrowplay import narrow as module
from narrowplay.codebounds import code_cells, code_choices, code_clock
from narrowplay.errors import BadCode, BadPlayer, BadWord
from narrowplay.narrow import code_plan, code_plan_holds, code_plays, narrow
from tests import code_reference, play_reference
from tests.code_reference import Running, code_tree
from tests.drawn import drawn_code
from tests.helpers import ANY_VALUES, check_gives, check_parameters, check_raises
from tests.play_reference import value, winners
from tests.test_codebounds import NO_CODE
from tests.test_plans import near_plans
from tests.test_plays import NO_WORDS

INPUT = ((1, 1),)
ONE = ("wins", "one")
TWO = ("wins", "two")
UP = ("up", 0)
PLAYERS = ("one", "two")


def of_rows(*rows):
    """Return code of one routine, with two tapes of three cells and three indexes up to 2."""
    return ((INPUT, ((0, 3),), ((0, 3),)), (((0, 2),),) * 3, (rows,))


def pick(player, letters, tape=1, index=0):
    return ("choose", player, tape, index, letters)


def unless(letter, target, index=0):
    return ("unless", ("is", 1, index, letter), target)


# Code, and with the empty word the player who wins, the runs of the narrow machine, and the cells.
GAMES = [
    (((INPUT,), (), ()), "two", 1, 0),
    (of_rows(), "two", 1, 9),
    (of_rows(ONE), "one", 1, 9),
    (of_rows(TWO), "two", 1, 9),
    (of_rows(pick("one", "a")), "two", 3, 10),
    (of_rows(pick("two", "a"), ONE), "one", 3, 10),
    # The one who chooses wins with the first letter: the others are not tried.
    (of_rows(pick("one", "abc"), ONE), "one", 3, 10),
    (of_rows(pick("one", "abc"), unless("b", 3), ONE), "one", 5, 10),
    (of_rows(pick("one", "abc"), unless("c", 3), ONE), "one", 7, 10),
    (of_rows(pick("one", "abc"), unless("d", 3), ONE), "two", 7, 10),
    (of_rows(pick("two", "abc"), unless("a", 3), ONE), "two", 5, 10),
    (of_rows(pick("two", "abc"), ("unless", ("not", ("is", 1, 0, "a")), 3), ONE), "two", 3, 10),
    (of_rows(pick("two", "abc"), ONE), "one", 7, 10),
    # Two picks after each other.
    (of_rows(pick("one", "ab"), UP, pick("two", "ab"), ("unless", ("equal", 1, 0, 1, 1), 5), ONE), "two", 11, 11),
    (of_rows(pick("two", "ab"), UP, pick("one", "ab"), ("unless", ("equal", 1, 0, 1, 1), 5), ONE), "one", 11, 11),
    (of_rows(pick("one", "ab"), UP, pick("one", "ab"), ("unless", ("not", ("equal", 1, 0, 1, 1)), 5), ONE), "one", 7, 11),
    (of_rows(pick("one", "ab"), pick("one", "cd"), pick("two", "ef"), ONE), "one", 9, 12),
    # A second choice after some letters only.
    (of_rows(pick("one", "ab"), unless("a", 5), pick("two", "cd"), unless("d", 5), ONE), "two", 7, 11),
    (of_rows(pick("one", "ab"), unless("b", 5), pick("two", "cd"), ("jump", 5), ONE), "two", 7, 11),
    (of_rows(pick("one", "ab"), unless("b", 4), pick("two", "cd"), ONE), "one", 9, 11),
    (of_rows(("repeat", ((0, 2),), 3), pick("two", "ab"), UP, ("again", 0), unless("b", 6, 1), ONE), "two", 5, 12),
    # The open loop holds a cell, and the picks that were appended hold one each.
    (of_rows(("repeat", ((0, 2),), 2), pick("one", "ab"), ("again", 0), unless("b", 5), ONE), "one", 7, 12),
]


class Games(unittest.TestCase):

    def test_games(self):
        for code, player, runs, cells in GAMES:
            self.assertEqual(code_reference.narrow(code, ""), (player, runs, cells), code)
            check_gives(self, (player, runs, cells), narrow, code, "")
            found = code_tree(code, "")
            self.assertEqual(winners(found)[""], player)
            self.assertEqual(code_plan(code, "")[0], player)

    def test_words(self):
        code = ((INPUT, INPUT), (INPUT,), ((
            ("repeat", INPUT, 7), pick("one", "ab"), ("unless", ("equal", 1, 0, 0, 0), 4), ("jump", 5), TWO, UP,
            pick("two", "c"), ("again", 0), ONE),))
        for word in ("", "a", "b", "c", "ab", "bb", "ac", "aaa", "bab"):
            check_gives(self, code_reference.narrow(code, word), narrow, code, word)
            self.assertEqual(narrow(code, word)[0], "one" if "c" not in word else "two")

    def test_all_that_is_visited(self):
        # Whoever wins all plays, the narrow machine goes through all picks where the other one chooses.
        for many in range(1, 6):
            rows = tuple(pick("two", "abc") for _ in range(many)) + (ONE,)
            picked = (3 ** (many + 1) - 1) // 2
            check_gives(self, ("one", 2 * picked - 1, 9 + many), narrow, of_rows(*rows), "")
            check_gives(self, ("one", 2 * (many + 1) - 1, 9 + many), narrow, of_rows(
                *[pick("one", "abc") for _ in range(many)], ONE), "")

    def test_cells_of_runs_that_are_not_the_longest(self):
        # Only the play with b calls a routine, and only that with c opens loops.
        routines = ((UP, UP), (
            pick("two", "abc"), unless("b", 3), ("call", 0), unless("c", 8), ("repeat", ((0, 1),), 7), ("repeat", ((0, 1),), 6),
            ("again", 5), ("again", 4), ONE))
        code = ((INPUT, ((0, 3),)), (((0, 2),),), routines)
        check_gives(self, ("one", 7, 4 + 1 + 2), narrow, code, "")
        check_gives(self, ("one", 7, 7 + 2), narrow, code, "xx")
        # A run that asks may hold the most cells: in a loop that is open while it asks.
        code = of_rows(("repeat", ((0, 1),), 2), pick("one", "a"), ("again", 0), pick("two", "b"))
        check_gives(self, ("two", 5, 12), narrow, code, "")

    def test_plays(self):
        for code, _, _, _ in GAMES:
            found = code_tree(code, "")
            wanted = tuple((picks, found[picks][1]) for picks in sorted(found) if found[picks][0] == "won")
            check_gives(self, wanted, code_plays, code, "")
        check_gives(self, (("", "two"),), code_plays, ((INPUT,), (), ()), "abc")
        check_gives(self, (("a", "one"), ("bc", "one"), ("bd", "one")), code_plays,
                    of_rows(pick("one", "ab"), unless("b", 3), pick("two", "cd"), ONE), "z")

    def test_drawn_code(self):
        wins = {"one": 0, "two": 0}
        tight = 0
        for code in drawn_code(range(500, 900)):
            for word in ("", "ab", "c"):
                if value(code_choices(code), len(word)) > 5:
                    continue
                found = code_tree(code, word)
                won = winners(found)
                if len(found) < 3 or len(found) > 150:
                    continue
                wins[won[""]] += 1
                told = narrow(code, word)
                self.assertEqual(told, code_reference.narrow(code, word))
                self.assertEqual(told[0], won[""])
                self.assertLessEqual(told[1], 2 * len(found) - 1)
                most = value(code_cells(code), len(word))
                self.assertLessEqual(told[2], most)
                tight += told[2] == most
                self.assertEqual(code_plays(code, word), tuple((picks, found[picks][1]) for picks in sorted(found)
                                                               if found[picks][0] == "won"))
                player, plan = code_plan(code, word)
                self.assertEqual(player, won[""])
                self.assertTrue(play_reference.is_plan(found, "", player, plan))
                for judged in PLAYERS:
                    self.assertIs(code_plan_holds(code, word, judged, plan), judged == player)
                # Whatever the picks, also those that are taken off and appended: each run keeps to the clock.
                for picks in sorted(found)[::9]:
                    self.assertLessEqual(Running(code, word, picks).steps, value(code_clock(code), len(word)))
        self.assertGreater(min(wins.values()), 20, wins)
        self.assertGreater(tight, 20)

    def test_big_trees(self):
        rows = tuple(pick(PLAYERS[at % 2], "ab", 1, at % 3) for at in range(11)) + (unless("a", 13, 1), ONE)
        code = ((INPUT, ((0, 18000),)), (((0, 2),),) * 3, (rows,))
        word = "q" * 40
        player, runs, cells = narrow(code, word)
        self.assertEqual(cells, 40 + 18000 + 3 + 11)
        self.assertEqual(code_plan(code, word)[0], player)
        self.assertEqual(len(code_plays(code, word)), 2 ** 11)
        rows = tuple(pick(PLAYERS[at % 2], "a") for at in range(40)) + (
            ("repeat", ((0, 390),), 42), UP, ("again", 40), ONE)
        told = narrow(of_rows(*rows), "")
        self.assertEqual(told, ("one", 81, 9 + 40 + 1))
        self.assertEqual((player, runs), code_reference.narrow(code, word)[:2])


class Plans(unittest.TestCase):

    def test_all_plans(self):
        for code, player, _, _ in GAMES:
            found = code_tree(code, "")
            for judged in PLAYERS:
                every = play_reference.plans(found, "", judged)
                self.assertEqual(every != [], judged == player)
                for plan in every[:100]:
                    check_gives(self, True, code_plan_holds, code, "", judged, plan)
                    check_gives(self, False, code_plan_holds, code, "", PLAYERS[judged == "one"], plan)

    def test_made_plans(self):
        for code, player, _, _ in GAMES:
            check_gives(self, code_plan(code, ""), code_plan, code, "")
            self.assertIn(repr(code_plan(code, "")), [
                repr((player, plan)) for plan in play_reference.plans(code_tree(code, ""), "", player)])

    def test_near_values(self):
        seen = 0
        for code, player, _, _ in GAMES:
            found = code_tree(code, "")
            for plan in play_reference.plans(found, "", player)[:2]:
                for thing in near_plans(plan):
                    for judged in PLAYERS:
                        wanted = play_reference.is_plan(found, "", judged, thing)
                        seen += wanted
                        self.assertIs(code_plan_holds(code, "", judged, thing), wanted, (code, judged, thing))
        self.assertGreater(seen, 20)

    def test_any_value(self):
        for code, _, _, _ in GAMES:
            for thing in ANY_VALUES + [("pick", "a"), ("all", ()), ("all", None), ("pick", "a", None), ("end", "end")]:
                for player in PLAYERS:
                    check_gives(self, False, code_plan_holds, code, "", player, thing)

    def test_word_matters(self):
        code = of_rows(pick("one", "ab"), ("unless", ("equal", 0, 0, 1, 0), 3), ONE)
        for word in ("", "a", "b", "c"):
            for letter in "ab":
                check_gives(self, letter == word, code_plan_holds, code, word, "one", ("pick", letter, ("end",)))
            lost = ("all", (("end",), ("end",)))
            check_gives(self, word in ("", "c"), code_plan_holds, code, word, "two", lost)
            check_gives(self, ("two", lost) if word in ("", "c") else ("one", ("pick", word, ("end",))), code_plan, code, word)


CALLS = [(narrow, ()), (code_plan, ()), (code_plays, ()), (code_plan_holds, ("one", ("end",))), (code_plan_holds, ("three", None)),
         (code_plan_holds, (None, ()))]


class Refusals(unittest.TestCase):

    def test_parameters(self):
        for call, names in ((narrow, ["code", "word"]), (code_plan, ["code", "word"]), (code_plays, ["code", "word"]),
                            (code_plan_holds, ["code", "word", "player", "thing"])):
            check_parameters(self, call, names)
            self.assertEqual(call.__module__, module.__name__)

    def test_no_code(self):
        for call, more in CALLS:
            for wrong in NO_CODE:
                for word in ("", None, "A"):
                    check_raises(self, BadCode, {"thing": wrong}, call, wrong, word, *more)

    def test_no_words(self):
        for call, more in CALLS:
            for wrong in NO_WORDS:
                check_raises(self, BadWord, {"thing": wrong}, call, GAMES[-1][0], wrong, *more)

    def test_no_players(self):
        for wrong in [thing for thing in ANY_VALUES if thing != "one"] + ["One", "three", "onetwo", "one ", ["one"], ("two",), 1, 2]:
            for thing in (("end",), ("all", ()), None):
                check_raises(self, BadPlayer, {"thing": wrong}, code_plan_holds, GAMES[-1][0], "", wrong, thing)
