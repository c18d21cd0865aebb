"""Winners and plans: [5.1], [5.2] and narrowplay/plans.py."""

import unittest

from narrowplay import plans
from narrowplay.errors import BadPicks, BadPlayer, BadProgram, BadWord
from narrowplay.plans import make_plan, many_plays, plan_holds, winner, wins_from
from narrowplay.texts import read
from tests import play_reference
from tests.drawn import drawn_programs
from tests.helpers import ANY_VALUES, check_gives, check_parameters, check_raises, run_examples, with_part
from tests.play_reference import numbers, program_tree, winners
from tests.test_plays import DUEL, NO_PROGRAMS, NO_WORDS

EXAMPLES = r"""
>>> from narrowplay.plans import many_plays, plan_holds, winner, wins_from
>>> from narrowplay.texts import read
>>> DUEL = read('tape t size 2\nindex i to 1\nprocedure main\n  one chooses t[i] from ab\n  up i\n  two chooses t[i] from ab\n  if t[i] is b\n    one wins\n  end\nend')
>>> SAME = read('tape t size 2\nindex i to 1\nindex j to 1\nprocedure main\n  two chooses t[i] from ab\n  up i\n  one chooses t[i] from ab\n  if t[i] equals t[j]\n    one wins\n  end\nend')
>>> [winner(DUEL, ''), many_plays(DUEL, ''), winner(SAME, ''), wins_from(DUEL, '', 'ab'), plan_holds(DUEL, '', 'two', ('all', (('pick', 'a', ('end',)), ('pick', 'a', ('end',))))), plan_holds(SAME, '', 'one', ('all', (('pick', 'a', ('end',)), ('pick', 'a', ('end',)))))]
['two', 4, 'one', 'one', True, False]
"""

SAME = read("tape t size 2\nindex i to 1\nindex j to 1\nprocedure main\n  two chooses t[i] from ab\n  up i\n  one chooses t[i] from ab\n"
            "  if t[i] equals t[j]\n    one wins\n  end\nend")
HEAD = "tape t size 3\nindex i to 2\nindex o to 0\nindex j to 1\nprocedure main\n"
PLAYERS = ("one", "two")


def program_of(lines):
    return read(HEAD + lines + "\nend")


# Programs with few plays, and the player who wins with the empty word.
GAMES = [
    (((), (), ()), "two"), (program_of(""), "two"), (program_of("one wins"), "one"), (program_of("two wins"), "two"),
    (DUEL, "two"), (SAME, "one"),
    (program_of("one chooses t[i] from a"), "two"), (program_of("two chooses t[i] from a\none wins"), "one"),
    (program_of("one chooses t[i] from abc\nif t[i] is c\none wins\nend"), "one"),
    (program_of("two chooses t[i] from abc\nif t[i] is c\none wins\nend"), "two"),
    (program_of("two chooses t[i] from abc\nif not t[i] is c\nelse\none wins\nend"), "two"),
    (program_of("two chooses t[i] from ab\nif t[i] is b\none chooses t[i] from cd\nif t[i] is d\none wins\nend\nelse\none wins\nend"), "one"),
    (program_of("one chooses t[i] from abc\nif t[i] is b\ntwo chooses t[i] from xy\nif t[i] is y\none wins\nend\nend\n"
                "if t[i] is c\nrepeat 2\nup i\ntwo chooses t[i] from n\nend\none wins\nend"), "one"),
    (program_of("repeat 2\none chooses t[i] from ab\nup i\nend\nif t[j] is a\ntwo wins\nend\none wins"), "one"),
    (program_of("repeat 3\ntwo chooses t[i] from ab\nup i\nend\nup j\nif not t[j] is a\none wins\nend"), "two"),
    (program_of("one chooses t[i] from ab\nif t[i] is a\ntwo wins\nend\none wins"), "one"),
    (program_of("two chooses t[i] from ab\nif t[i] is a\none wins\nend\ntwo wins"), "two"),
    (program_of("one chooses t[i] from ab\ntwo chooses t[i] from ab\nup i\none chooses t[i] from ab\nif t[i] equals t[o]\none wins\nend"), "one"),
    (program_of("one chooses t[i] from ab\nup i\ntwo chooses t[i] from ab\nif t[i] equals t[o]\none wins\nend"), "two"),
]


def near_plans(plan):
    """Return values that are near to a plan."""
    found = [list(plan), plan + (None,), plan + ((),), (plan,), plan[:-1], plan[::-1], plan * 2, {plan[0]: plan[1:]}, plan[0], None,
             True, (), with_part(plan, 0, plan[0].upper()), with_part(plan, 0, None), with_part(plan, 0, plan[0] + " "),
             ("end",), ("end", ()), ("pick", "a", plan), ("pick", "b", plan), ("all", (plan, plan)), ("all", (plan,)),
             with_part(plan, 0, "end"), with_part(plan, 0, "pick"), with_part(plan, 0, "all")]
    if plan[0] == "pick":
        for letter in ["a", "b", "c", "d", "y", "z", "n", "", "ab", "aa", "abc", "A", None, True, 0, ["a"], ("a",), plan[1] * 2]:
            found.append(("pick", letter, plan[2]))
        found += [("pick", plan[2], plan[1]), ("all", (plan[2],)), ("all", (plan[2], plan[2])), ("pick", plan[2])]
        found += [("pick", plan[1], near) for near in near_plans(plan[2])]
    if plan[0] == "all":
        rows = plan[1]
        found += [("all", rows[::-1]), ("all", list(rows)), ("all", rows + rows[-1:]), ("all", rows[:-1]), ("all", ()),
                  ("all", rows[:1] + rows), ("all",) + rows, ("all", dict(enumerate(rows))), ("all", rows[1:]), ("all", None),
                  ("all", rows[0]), ("pick", "a", rows[0]), ("all", "ab"), ("all", rows + (None,))]
        for at, inner in enumerate(rows):
            found += [("all", with_part(rows, at, near)) for near in near_plans(inner)]
            found += [("all", with_part(rows, at, other)) for other in rows]
    return found


class Winners(unittest.TestCase):

    def test_games(self):
        for program, player in GAMES:
            check_gives(self, player, winner, program, "")
            check_gives(self, player, wins_from, program, "", "")
            found = program_tree(program, "")
            self.assertEqual(winners(found)[""], player)
            check_gives(self, sum(1 for told in found.values() if told[0] == "won"), many_plays, program, "")

    def test_words(self):
        program = read("tape t size n + 1\nindex i to n\nprocedure main\nrepeat n\none chooses t[i] from ab\nif not t[i] equals input[i]\n"
                       "two wins\nend\nup i\ntwo chooses t[i] from c\nend\none wins\nend")
        for word in ("", "a", "ab", "bba", "bbbab", "c", "ac", "abca"):
            check_gives(self, "two" if "c" in word else "one", winner, program, word)
            check_gives(self, (word.index("c") if "c" in word else len(word) - 1) + 2 if word else 1, many_plays, program, word)

    def test_many_plays(self):
        for lines, many in (
                ("", 1), ("one chooses t[i] from a", 1), ("one chooses t[i] from abc", 3), ("repeat 4\ntwo chooses t[i] from abc\nend", 81),
                ("repeat 10\none chooses t[o] from ab\nend", 1024),
                ("one chooses t[i] from ab\nif t[i] is a\none chooses t[i] from abcd\nend", 5),
                ("one wins\none chooses t[i] from ab", 1), ("one chooses t[i] from abcdefghijklmnopqrstuvwxyz", 26)):
            check_gives(self, many, many_plays, program_of(lines), "x")

    def test_from_all_picks(self):
        for program, _ in GAMES:
            found = program_tree(program, "")
            for picks, player in winners(found).items():
                check_gives(self, player, wins_from, program, "", picks)

    def test_picks_that_are_not_in_the_tree(self):
        for program, _ in GAMES:
            found = program_tree(program, "")
            for picks in list(found):
                for letter in "abcdnyz":
                    for wrong in (picks + letter, picks + letter + "a"):
                        if wrong not in found:
                            check_raises(self, BadPicks, {"thing": wrong}, wins_from, program, "", wrong)

    def test_drawn_programs(self):
        wins = {"one": 0, "two": 0}
        for program in drawn_programs(range(200)):
            for word in ("", "ab", "c"):
                if numbers(program, len(word))[1] > 5:
                    continue
                found = program_tree(program, word)
                won = winners(found)
                if len(found) < 3 or len(found) > 150:
                    continue
                wins[won[""]] += 1
                self.assertEqual(winner(program, word), won[""])
                self.assertEqual(many_plays(program, word), sum(1 for told in found.values() if told[0] == "won"))
                plan = make_plan(program, word)
                self.assertTrue(play_reference.is_plan(found, "", won[""], plan))
                for player in PLAYERS:
                    self.assertIs(plan_holds(program, word, player, plan), player == won[""])
                for picks in sorted(found)[::7]:
                    self.assertEqual(wins_from(program, word, picks), won[picks])
        self.assertGreater(min(wins.values()), 20, wins)

    def test_long_games(self):
        choices = "".join(player + " chooses t[i] from ab\nup i\n" for player in PLAYERS * 5)
        program = read("tape t size 10\nindex i to 9\nindex j to 9\nprocedure main\n" + choices
                       + "repeat 9\nif t[j] equals t[i]\nend\nup j\nend\nif t[i] is a\none wins\nend\nend")
        self.assertEqual((winner(program, ""), many_plays(program, "")), ("two", 1024))
        self.assertTrue(plan_holds(program, "", "two", make_plan(program, "")))
        program = read("tape t size 60\nindex i to 59\nprocedure main\nrepeat 30\none chooses t[i] from a\ntwo chooses t[i] from z\nup i\nend\n"
                       "one wins\nend")
        self.assertEqual((winner(program, "ab"), many_plays(program, "ab")), ("one", 1))
        plan = make_plan(program, "ab")
        self.assertTrue(plan_holds(program, "ab", "one", plan))
        self.assertEqual(repr(plan).count("pick"), 30)

    def test_plan_for_a_tree_that_is_too_big_to_search(self):
        program = read("tape t size 60\nindex i to 59\nprocedure main\nrepeat 60\none chooses t[i] from ab\nup i\nend\none wins\nend")
        plan = ("end",)
        for at in range(60):
            plan = ("pick", "ab"[at % 2], plan)
        check_gives(self, True, plan_holds, program, "", "one", plan)
        check_gives(self, False, plan_holds, program, "", "two", plan)
        check_gives(self, False, plan_holds, program, "", "one", plan[2])
        check_gives(self, False, plan_holds, program, "", "one", ("pick", "a", plan))


class Plans(unittest.TestCase):

    def test_all_plans(self):
        for program, _ in GAMES:
            found = program_tree(program, "")
            for player in PLAYERS:
                every = play_reference.plans(found, "", player)
                self.assertEqual(every != [], winners(found)[""] == player)
                for plan in every[:200]:
                    check_gives(self, True, plan_holds, program, "", player, plan)
                    check_gives(self, False, plan_holds, program, "", PLAYERS[player == "one"], plan)

    def test_made_plans(self):
        for program, player in GAMES:
            check_gives(self, make_plan(program, ""), make_plan, program, "")
            self.assertIn(repr(make_plan(program, "")), [repr(plan) for plan in play_reference.plans(program_tree(program, ""), "", player)])

    def test_near_values(self):
        seen = 0
        for program, player in GAMES:
            found = program_tree(program, "")
            for plan in play_reference.plans(found, "", player)[:3]:
                for thing in near_plans(plan):
                    for judged in PLAYERS:
                        wanted = play_reference.is_plan(found, "", judged, thing)
                        seen += wanted
                        self.assertIs(plan_holds(program, "", judged, thing), wanted, (program, judged, thing))
        self.assertGreater(seen, 20)

    def test_any_value(self):
        for program, _ in GAMES:
            for thing in ANY_VALUES + [("pick", "a"), ("all", ()), ("all", None), ("pick", "a", None), ("end", "end")]:
                for player in PLAYERS:
                    check_gives(self, False, plan_holds, program, "", player, thing)

    def test_letters(self):
        program = program_of("one chooses t[i] from bdy\none wins")
        for letter in ["a", "b", "c", "d", "x", "y", "z", "", "bd", "dy", "bdy", "B", None, 0, True, ["b"], ("b",), {}]:
            check_gives(self, letter in ("b", "d", "y"), plan_holds, program, "", "one", ("pick", letter, ("end",)))

    def test_plans_in_order(self):
        program = program_of("two chooses t[i] from abc\nif t[i] is b\none chooses t[i] from xy\nend\none wins")
        end = ("end",)
        middle = ("pick", "x", end)
        for rows in ((end, middle, end), (end, ("pick", "y", end), end), (middle, end, end), (end, end, middle), (end, middle),
                     (end, middle, end, end), (end, end, end), (middle,) * 3, [end, middle, end], (end, ["pick", "x", end], end)):
            right = repr(rows) in (repr((end, middle, end)), repr((end, ("pick", "y", end), end)))
            check_gives(self, right, plan_holds, program, "", "one", ("all", rows))

    def test_word_matters(self):
        program = program_of("one chooses t[i] from ab\nif t[i] equals input[i]\none wins\nend")
        for word in ("", "a", "b", "c"):
            for letter in "ab":
                check_gives(self, letter == word, plan_holds, program, word, "one", ("pick", letter, ("end",)))
            lost = ("all", (("end",), ("end",)))
            check_gives(self, word in ("", "c"), plan_holds, program, word, "two", lost)
            check_gives(self, lost if word in ("", "c") else ("pick", word, ("end",)), make_plan, program, word)


CALLS = [(winner, ()), (many_plays, ()), (make_plan, ()), (plan_holds, ("one", ("end",))), (plan_holds, ("three", None)),
         (wins_from, ("",)), (wins_from, ("A",)), (wins_from, (None,)), (wins_from, ("q",))]


class Refusals(unittest.TestCase):

    def test_parameters(self):
        for call, names in (
                (winner, ["program", "word"]), (many_plays, ["program", "word"]), (make_plan, ["program", "word"]),
                (plan_holds, ["program", "word", "player", "thing"]), (wins_from, ["program", "word", "picks"])):
            check_parameters(self, call, names)
            self.assertEqual(call.__module__, plans.__name__)

    def test_no_programs(self):
        for call, more in CALLS:
            for wrong in NO_PROGRAMS:
                for word in ("", None, "A"):
                    check_raises(self, BadProgram, {"thing": wrong}, call, wrong, word, *more)

    def test_no_words(self):
        for call, more in CALLS:
            for wrong in NO_WORDS:
                check_raises(self, BadWord, {"thing": wrong}, call, DUEL, wrong, *more)

    def test_no_picks(self):
        for wrong in NO_WORDS + ["c", "ac", "abz", "aba", "b" * 100]:
            check_raises(self, BadPicks, {"thing": wrong}, wins_from, DUEL, "", wrong)
        for wrong in NO_WORDS + ["a"]:
            check_raises(self, BadPicks, {"thing": wrong}, wins_from, ((), (), ()), "ab", wrong)

    def test_no_players(self):
        for wrong in [thing for thing in ANY_VALUES if thing != "one"] + ["One", "three", "onetwo", "one ", ["one"], ("two",), 1, 2]:
            for thing in (("end",), ("all", ()), None):
                check_raises(self, BadPlayer, {"thing": wrong}, plan_holds, DUEL, "", wrong, thing)

    def test_examples(self):
        run_examples(self, EXAMPLES)
