"""Programs played by halves: [11.1] to [11.3], [0.3] and narrowplay/halves.py."""

import random
import unittest

from narrowplay import halves
from narrowplay.bounds import cells, choices, clock
from narrowplay.compiler import compiled
from narrowplay.errors import BadMachine, BadPicks, BadWord
from narrowplay.halves import asked_after, claim_after, game_won, halving_program, honest_pick, many_choices, winning_player
from narrowplay.machines import accepts, depth
from narrowplay.plans import plan_holds
from narrowplay.plays import run
from narrowplay.polys import poly_text
from narrowplay.runs import run_code
from narrowplay.texts import written
from tests.helpers import check_gives, check_parameters, check_raises, run_examples, with_part
from tests.machine_reference import (
    LETTERS, Halving, MachineDrawing, accepts as accepts_again, comes_up, depth_at, drawn_machines, first, following, picture)
from tests.play_reference import value
from tests.test_machines import NO_MACHINES, SEEK, TURN
from tests.test_plays import NO_WORDS

EXAMPLES = r"""
>>> from narrowplay.halves import asked_after, claim_after, game_won, halving_program, honest_pick, many_choices, winning_player
>>> from narrowplay.plays import run
>>> ONE = ('machine', 'ab', (((1, 'a', 0), (2, 'b', 0)),), ((0, 1),))
>>> [many_choices(ONE), asked_after(ONE, '', ''), asked_after(ONE, '', 'ay'), claim_after(ONE, '', 'ayb'), asked_after(ONE, '', 'aybaya'), claim_after(ONE, '', 'aybayar')]
[((0, 19),), ('one', 'ab'), ('one', 'abc'), ('aya', 'ayb'), ('two', 'lr'), ('aya', 'ayb')]
>>> PLAY = 'ayb' + 'aybl' * 4
>>> [game_won(ONE, '', PLAY), run(halving_program(ONE), '', PLAY)[:2], honest_pick(ONE, '', ''), honest_pick(ONE, 'a', 'ay'), game_won(ONE, 'b', 'byb' + 'bybl' * 4), winning_player(ONE, '', ''), winning_player(ONE, '', 'b')]
['one', ('won', 'one'), 'a', 'b', 'two', 'one', 'two']
"""

N1 = ((0, 1), (1, 1))
ONE = ("machine", "ab", (((1, "a", 0), (2, "b", 0)),), ((0, 1),))
# Signs that are the letters of other choices, too.
MARKS = ("machine", "ny", (((0, "y", 1), (1, "n", -1)), ((2, "y", 0), (0, "n", 1))), ((0, 2),))
SIDES = ("machine", "lnry", (((0, "r", 1), (1, "y", 1), (2, "n", 0), (1, "l", -1)),), ((0, 2),))
# Machines in whose runs many standings come up.
LONG = ("machine", "abcd", (((2, "a", 1), (0, "d", 1), (1, "c", -1), (1, "d", 1)), ((0, "c", -1), (0, "a", 1), (1, "b", 1), (1, "b", -1))),
        ((0, 4),))
FOREVER = ("machine", "abcd", (
    ((0, "c", -1), (0, "a", 1), (0, "b", 1), (0, "a", 1)), ((2, "c", 1), (1, "a", 1), (1, "a", 1), (2, "c", 0))), ((0, 4),))
ROOMS = [((0, 1),), ((0, 2),), ((0, 3),), ((0, 4),), N1, ((0, 2), (1, 1)), ((0, 1), (2, 1))]
PLAYERS = ("one", "two")


def limited(machine, word):
    """Return whether a machine may be played with a word, by the limits of part 11."""
    width, rounds = value(machine[3], len(word)), depth_at(machine, len(word))
    return (rounds + 1) * (2 * width + 1) + rounds <= 150


def drawn_games(seeds, rooms=ROOMS, **most):
    """Return machines with words, within the limits of part 11."""
    found = []
    for seed in seeds:
        drawing = MachineDrawing(seed)
        machine = drawing.machine(rooms, **most)
        word = drawing.word(machine, 4)
        if limited(machine, word):
            found.append((machine, word))
    return found


GAMES = [(ONE, ""), (ONE, "b"), (SEEK, "b"), (SEEK, ""), (SEEK, "ab"), (SEEK, "aa"), (TURN, "z"), (TURN, ""), (TURN, "xy"), (MARKS, "n"),
         (MARKS, "yy"), (SIDES, "rl"), (SIDES, "")] + drawn_games(range(40))


def drawn_picks(game, drawn, many):
    """Return possible picks of a game, drawn letter by letter."""
    return "".join(drawn.choice(letters) for _, letters in game.choices[:many])


def truthful(machine, word, drawn):
    """Return picks to the end in which one claims what is true wherever that can be done, and two chooses at random."""
    game = Halving(machine, word)
    found = [picture(standing) for standing in comes_up(machine, first(machine, word))]
    picks = found[-1]
    front, back = game.start, picks
    for _ in range(game.rounds):
        between = found[(found.index(front) + found.index(back)) // 2] if front in found and back in found else drawn.choice(found)
        half = drawn.choice("lr")
        picks += between + half
        front, back = (front, between) if half == "l" else (between, back)
    return picks


class Choices(unittest.TestCase):

    def test_many_choices(self):
        for machine, wanted in (
                (ONE, "19"), (MARKS, "41"), (SEEK, "4*n^2 + 18*n + 19"), (TURN, "95"), (with_part(ONE, 3, ((0, 1), (1, 1))), "4*n^2 + 18*n + 19"),
                (with_part(ONE, 3, ((0, 2), (3, 1))), "4*n^6 + 26*n^3 + 41")):
            self.assertEqual(poly_text(many_choices(machine)), wanted)
            check_gives(self, many_choices(machine), many_choices, machine)
        for machine in drawn_machines(range(60), ROOMS, most_signs=6, most_states=9):
            for length in (0, 1, 3, 10):
                rounds, width = depth_at(machine, length), value(machine[3], length)
                self.assertEqual(value(many_choices(machine), length), (rounds + 1) * (2 * width + 1) + rounds)

    def test_asked(self):
        drawn = random.Random(1)
        for machine, word in GAMES:
            game = Halving(machine, word)
            self.assertEqual(value(many_choices(machine), len(word)), len(game.choices))
            picks = drawn_picks(game, drawn, None)
            for at, choice in enumerate(game.choices):
                self.assertEqual(asked_after(machine, word, picks[:at]), choice)
                self.assertEqual("".join(sorted(choice[1])), choice[1])
            check_gives(self, None, asked_after, machine, word, picks)
            check_gives(self, game.choices[7], asked_after, machine, word, picks[:7])

    def test_claims_and_ends(self):
        drawn = random.Random(2)
        wins = {"one": 0, "two": 0}
        for machine, word in GAMES:
            game = Halving(machine, word)
            for _ in range(3):
                picks = drawn_picks(game, drawn, None)
                for at in range(len(picks) + 1):
                    self.assertEqual(claim_after(machine, word, picks[:at]), game.claim(picks[:at]))
                for ended in (picks, truthful(machine, word, drawn)):
                    self.assertEqual(game_won(machine, word, ended), game.won(ended))
                    self.assertEqual(winning_player(machine, word, ended), game.won(ended))
                    wins[game.won(ended)] += 1
            check_gives(self, game.won(picks), game_won, machine, word, picks)
            check_gives(self, game.claim(picks), claim_after, machine, word, picks)
        self.assertGreater(min(wins.values()), 20, wins)

    def test_ends_by_hand(self):
        for word, picks, wanted in (
                # The claim at the end: equal words, one step, more than one, none; whether they are pictures or not.
                ("", "ayb" + "aybl" * 4, "one"), ("", "ayb" + "ayar" * 4, "one"), ("", "ayb" + "ayal" * 4, "one"), ("", "byb" + "aybl" * 4, "one"),
                ("", "byb" + "bybr" * 4, "one"), ("", "anb" + "anbr" * 4, "one"), ("", "anb" + "anbl" * 4, "two"), ("", "anb" + "ayar" * 4, "two"),
                ("", "ayb" + "anbr" * 4, "two"), ("", "byb" + "ayar" * 4, "two"), ("b", "byc" + "bycr" * 4, "two"), ("b", "byc" + "bycl" * 4, "two"),
                # The first B decides, not the last one.
                ("", "ayc" + "aybl" * 4, "two"), ("", "aya" + "ayal" * 4, "two"), ("", "ayb" + "aybl" * 3 + "ayal", "one"),
                ("b", "byb" + "bybl" * 4, "two"), ("b", "byb" + "bycl" * 4, "one"), ("b", "byb" + "bycl" + "bycr" * 3, "one")):
            self.assertEqual(Halving(ONE, word).won(picks), wanted, picks)
            check_gives(self, wanted, game_won, ONE, word, picks)
            check_gives(self, wanted, winning_player, ONE, word, picks)
            self.assertEqual(run(halving_program(ONE), word, picks)[:2], ("won", wanted), picks)

    def test_examples(self):
        run_examples(self, EXAMPLES)


class Programs(unittest.TestCase):

    def test_plays(self):
        drawn = random.Random(3)
        wins = {"one": 0, "two": 0}
        for machine, word in GAMES:
            program = halving_program(machine)
            game = Halving(machine, word)
            for given in (drawn_picks(game, drawn, None), truthful(machine, word, drawn)):
                for at in [0, 1] + [drawn.randrange(len(given)) for _ in range(6)]:
                    self.assertEqual(run(program, word, given[:at])[:3], ("asks",) + game.choices[at])
                    wrong = drawn.choice([letter for letter in "abclmnrxyz" if letter not in game.choices[at][1]])
                    self.assertEqual(run(program, word, given[:at] + wrong), ("wrong", at))
                for more in ("", "a", "zz"):
                    told = run(program, word, given + more)
                    self.assertEqual(told[:2] + told[3:], ("won", game.won(given), len(given)))
                    self.assertLessEqual(told[2], value(clock(program), len(word)))
                wins[game.won(given)] += 1
                self.assertEqual(run_code(compiled(program), word, given)[:2], ("won", game.won(given)))
        self.assertGreater(min(wins.values()), 10, wins)

    def test_each_choice_of_some_games(self):
        drawn = random.Random(4)
        for machine, word in ((ONE, ""), (SIDES, "ny"), (TURN, "yz")):
            program = halving_program(machine)
            game = Halving(machine, word)
            picks = drawn_picks(game, drawn, None)
            for at in range(len(picks)):
                self.assertEqual(run(program, word, picks[:at])[:3], ("asks",) + game.choices[at])
                for letter in "abclnrxyz":
                    told = run(program, word, picks[:at] + letter)
                    self.assertEqual(told == ("wrong", at), letter not in game.choices[at][1])

    def test_ends_near_the_right_one(self):
        # Plays that one wins, with one letter otherwise: it is in the claim at the end, or it does not matter.
        drawn = random.Random(5)
        changed = 0
        for machine, word in GAMES:
            game = Halving(machine, word)
            program = halving_program(machine)
            picks = truthful(machine, word, drawn)
            # The claim is made smaller in each round, so that what comes last is what is compared at the end.
            for at in list(range(len(game.word))) + list(range(len(picks) - 2 * len(game.word) - 2, len(picks))):
                for letter in game.choices[at][1]:
                    other = picks[:at] + letter + picks[at + 1:]
                    changed += game.won(other) != game.won(picks)
                    self.assertEqual(game_won(machine, word, other), game.won(other))
                    if drawn.random() < 0.25:
                        self.assertEqual(run(program, word, other)[1], game.won(other))
        self.assertGreater(changed, 100)

    def test_all_steps(self):
        # Each step of a run is a claim with which one wins at the end.
        for machine, word in GAMES[:20]:
            program = halving_program(machine)
            game = Halving(machine, word)
            found = [picture(standing) for standing in comes_up(machine, first(machine, word))]
            if found[-1][-1] != game.accepting:
                continue
            for before, after in zip(found[:12], found[1:13]):
                picks = found[-1] + (before + "r") * (game.rounds - 1) + after + "l"
                self.assertEqual(game.won(picks), "one")
                self.assertEqual(run(program, word, picks)[:2], ("won", "one"))
                self.assertEqual(game_won(machine, word, picks), "one")

    def test_all_kinds_of_last_claims(self):
        # Words with no head or with several, and beside each of them what would come next if a head were at any cell.
        drawn = random.Random(11)
        wins = {"one": 0, "two": 0}
        rising = ("machine", "ab", (((0, "b", 1), (1, "a", -1)),), ((0, 2),))
        for machine, word in [(ONE, ""), (rising, ""), (rising, "ab"), (MARKS, "yn")] + drawn_games(range(4000, 4010), [((0, 2),), ((0, 3),)]):
            game = Halving(machine, word)
            program = halving_program(machine)
            words = game.words()
            begin = drawn.choice(words)[:-1] + game.accepting
            for front in [game.start] * 3 + drawn.sample(words, min(12, len(words))):
                near = {front} | {changed(front, game, drawn) for _ in range(4)}
                for head in range(game.width):
                    after = picture(following(machine, (LETTERS.index(front[-1]), head, front[:game.width])))
                    near |= {after, changed(after, game, drawn)}
                    near |= {after[:game.width] + heads + after[-1] for heads in (front[game.width:-1], "n" * game.width, "y" * game.width)}
                for back in sorted(near):
                    # The claim (front, back), in the last round and before it; with the first front it needs no word for it.
                    picks = begin + (front + "r") * (game.rounds - 1) + back + "l"
                    if front == game.start:
                        picks = begin + (back + "l") * game.rounds
                    self.assertEqual(game.claim(picks), (front, back))
                    self.assertEqual(run(program, word, picks)[:2], ("won", game.won(picks)), (machine, picks))
                    self.assertEqual(game_won(machine, word, picks), game.won(picks))
                    wins[game.won(picks)] += 1
        self.assertGreater(min(wins.values()), 100, wins)

    def test_limits(self):
        widest = 0
        for machine in drawn_machines(range(150), ROOMS) + [with_part(SIDES, 3, ((0, 4),)), with_part(SIDES, 3, ((0, 1), (3, 3)))]:
            program = halving_program(machine)
            tapes, indexes, procedures = program
            self.assertLessEqual(max(len(tapes), len(indexes)), 12)
            self.assertLessEqual(len(procedures), 20)
            text = written(program)
            self.assertLessEqual(len(text), 40000)
            self.assertLessEqual(text.count("\n"), 1200)
            self.assertLessEqual(max(len(line) - len(line.lstrip(" ")) for line in text.split("\n")), 30)
            steps, picked, held = clock(program), choices(program), cells(program)
            self.assertEqual(picked, many_choices(machine))
            for length in [length for length in range(41) if value(picked, length) <= 150]:
                widest = max(widest, value(picked, length))
                self.assertLessEqual(value(steps, length), 20000)
                self.assertLessEqual(value(held, length), 2000)
        self.assertEqual(widest, 149)
        check_gives(self, halving_program(SEEK), halving_program, SEEK)

    def test_long_words(self):
        # Whatever is behind the tape's end is not read.
        for word in ("b" * 40, "ab" * 20, "a" * 39 + "q"):
            self.assertEqual(run(halving_program(ONE), word, "")[:3], ("asks", "one", "ab"))
            for picks in ("ayb" + "aybl" * 4, "byb" + "byal" * 4, "byb" + "bycl" * 4, "byc" + "bycl" * 4):
                self.assertEqual(run(halving_program(ONE), word, picks)[1], game_won(ONE, word, picks))


class Winners(unittest.TestCase):

    def test_at_the_beginning(self):
        wins = {"one": 0, "two": 0}
        for machine, word in GAMES + drawn_games(range(1000, 1400)):
            wanted = "one" if accepts_again(machine, word) else "two"
            wins[wanted] += 1
            self.assertEqual(winning_player(machine, word, ""), wanted)
            self.assertIs(accepts(machine, word), wanted == "one")
        self.assertGreater(min(wins.values()), 100, wins)
        check_gives(self, "one", winning_player, SEEK, "b", "")

    def test_against_a_look_at_all_words(self):
        wins = {"one": 0, "two": 0}
        drawn = random.Random(6)
        for machine, word in drawn_games(range(2000, 2040), [((0, 1),), ((0, 2),)], most_signs=2, most_states=2):
            game = Halving(machine, word)
            for _ in range(3):
                for ended in (drawn_picks(game, drawn, None), truthful(machine, word, drawn)):
                    for at in [drawn.randrange(len(ended) + 1) for _ in range(12)]:
                        picks = ended[:at]
                        self.assertEqual(winning_player(machine, word, picks), game.winner(picks), (machine, word, picks))
                        wins[game.winner(picks)] += 1
        self.assertGreater(min(wins.values()), 300, wins)

    def test_claims_in_a_circle(self):
        # The standings come up again and again: a middle may come after the end of the claim and lead to it nevertheless.
        wins = {"one": 0, "two": 0}
        seen = 0
        drawn = random.Random(10)
        for machine, word in drawn_games(range(3000, 3900), [((0, 1),), ((0, 2),)], most_signs=2, most_states=2):
            game = Halving(machine, word)
            found = [picture(standing) for standing in comes_up(machine, first(machine, word))]
            if found[-1][-1] >= game.accepting or len(found) < 4:
                continue
            seen += 1
            begin = game.start[:-1] + game.accepting
            for goal in found:
                for number in range(1, game.rounds):
                    for middle in drawn.sample(found, min(4, len(found))):
                        picks = begin + (goal + "l") * number + middle[:drawn.choice([1, len(middle), len(middle)])]
                        self.assertEqual(winning_player(machine, word, picks), game.winner(picks), (machine, word, picks))
                        wins[game.winner(picks)] += 1
        self.assertGreater(seen, 5)
        self.assertGreater(min(wins.values()), 100, wins)

    def test_follows_from_the_next_picks(self):
        # [5.1]: a player wins from picks if they choose and win with one letter more, or with each one if the other chooses.
        drawn = random.Random(7)
        for machine, word in GAMES:
            game = Halving(machine, word)
            for ended in (drawn_picks(game, drawn, None), truthful(machine, word, drawn)):
                for at in [drawn.randrange(len(ended)) for _ in range(8)] + [0, len(ended) - 1]:
                    player, letters = game.choices[at]
                    with_one_more = [winning_player(machine, word, ended[:at] + letter) for letter in letters]
                    other = PLAYERS[player == "one"]
                    self.assertEqual(winning_player(machine, word, ended[:at]), player if player in with_one_more else other)

    def test_honest_against_drawn_picks(self):
        drawn = random.Random(8)
        games = {"one": 0, "two": 0}
        for machine, word in GAMES[:34]:
            game = Halving(machine, word)
            player = winning_player(machine, word, "")
            program = halving_program(machine)
            for honest in PLAYERS:
                picks = ""
                true = truthful(machine, word, drawn)
                while len(picks) < len(game.choices):
                    chooser, letters = game.choices[len(picks)]
                    if chooser == honest:
                        letter = honest_pick(machine, word, picks)
                        self.assertIn(letter, list(letters))
                    else:
                        letter = drawn.choice(letters) if drawn.random() < 0.5 else true[len(picks)]
                    picks += letter
                if honest == player:
                    games[player] += 1
                    self.assertEqual(game_won(machine, word, picks), player)
                self.assertEqual(run(program, word, picks)[:2], ("won", game_won(machine, word, picks)))
        self.assertGreater(min(games.values()), 8, games)

    def test_honest_picks(self):
        drawn = random.Random(9)
        for machine, word in GAMES[:30]:
            game = Halving(machine, word)
            for ended in (drawn_picks(game, drawn, None), truthful(machine, word, drawn)):
                for at in [drawn.randrange(len(ended)) for _ in range(6)]:
                    picks = ended[:at]
                    player, letters = game.choices[at]
                    winning = [letter for letter in letters if winning_player(machine, word, picks + letter) == player]
                    self.assertIn(honest_pick(machine, word, picks), winning or list(letters))
        check_gives(self, honest_pick(SEEK, "b", "b"), honest_pick, SEEK, "b", "b")

    def test_many_standings(self):
        for machine, word, many in ((LONG, "d", 77), (LONG, "", 2), (FOREVER, "", 53)):
            found = comes_up(machine, first(machine, word))
            self.assertEqual(len(found), many)
            wanted = "one" if accepts_again(machine, word) else "two"
            check_gives(self, wanted, winning_player, machine, word, "")
            # All claims about two standings, with all rounds left: it matters only which of them comes first.
            if many == 77:
                end = picture(found[-1])
                for between in found[::5]:
                    check_gives(self, "one", winning_player, machine, word, end + picture(between))
                    check_gives(self, "one", winning_player, machine, word, end + picture(between) + "r")
                # With 2 ** 5 steps for each half the middle is not free, and with 2 ** 6 in all the end is too far.
                for at, between in enumerate(found):
                    picks = end + (end + "l") * 7 + picture(between)
                    check_gives(self, "one" if 12 <= at <= 64 else "two", winning_player, machine, word, picks)
                check_gives(self, "one", winning_player, machine, word, end + (end + "l") * 7)
                check_gives(self, "two", winning_player, machine, word, end + (end + "l") * 8)
        self.assertEqual(honest_pick(LONG, "d", ""), picture(comes_up(LONG, first(LONG, "d"))[-1])[0])

    def test_plans_with_few_parts(self):
        # One can claim nothing but the end: two wins with any answers. Such a plan has one part for each pick.
        machine = ("machine", "ab", (((1, "a", 0), (1, "a", 0)),), ((0, 1),))
        program = halving_program(machine)
        game = Halving(machine, "")

        def plan(picks):
            """Return a plan of one against both answers of two: claims that are right in whichever half is doubted."""
            if len(picks) == len(game.choices):
                return ("end",)
            player, letters = game.choices[len(picks)]
            if player == "one":
                letter = honest_pick(machine, "", picks)
                return ("pick", letter, plan(picks + letter))
            return ("all", tuple(plan(picks + letter) for letter in letters))

        right = plan("")
        self.assertTrue(plan_holds(program, "", "one", right))
        self.assertFalse(plan_holds(program, "", "two", right))
        for path in ((), (2,), (2, 2)):
            for letter in "aybnc":
                self.assertEqual(plan_holds(program, "", "one", with_letter(right, path, letter)), letter == at(right, path)[1], (path, letter))


def changed(word, game, drawn):
    """Return a word of a claim with one letter drawn anew."""
    place = drawn.randrange(len(word))
    return word[:place] + drawn.choice(game.word[place][1]) + word[place + 1:]


def at(plan, path):
    for step in path:
        plan = plan[step]
    return plan


def with_letter(plan, path, letter):
    """Return a plan with another letter in the pick at a path."""
    if path:
        return with_part(plan, path[0], with_letter(plan[path[0]], path[1:], letter))
    return with_part(plan, 1, letter)


CALLS = [claim_after, asked_after, game_won, winning_player, honest_pick]


def wrong_picks(machine, word):
    """Return strings that are no possible picks."""
    game = Halving(machine, word)
    picks = drawn_picks(game, random.Random(0), None)
    found = [picks + "a", picks + "l", picks + "y", picks * 2]
    for place in range(0, len(picks), 3):
        _, letters = game.choices[place]
        for wrong in "acdlnqryzA 0":
            if wrong not in letters:
                found += [picks[:place] + wrong, picks[:place] + wrong + picks[place + 1:]]
    return found


class Refusals(unittest.TestCase):

    def test_parameters(self):
        for call in (halving_program, many_choices):
            check_parameters(self, call, ["machine"])
            self.assertEqual(call.__module__, halves.__name__)
        for call in CALLS:
            check_parameters(self, call, ["machine", "word", "picks"])
            self.assertEqual(call.__module__, halves.__name__)

    def test_no_machines(self):
        for wrong in NO_MACHINES:
            check_raises(self, BadMachine, {"thing": wrong}, halving_program, wrong)
            check_raises(self, BadMachine, {"thing": wrong}, many_choices, wrong)
            for call in CALLS:
                for word, picks in (("", ""), (None, "a"), ("", "A"), ("A", None)):
                    check_raises(self, BadMachine, {"thing": wrong}, call, wrong, word, picks)

    def test_no_words(self):
        for call in CALLS:
            for wrong in NO_WORDS:
                for picks in ("", None, "q"):
                    check_raises(self, BadWord, {"thing": wrong}, call, ONE, wrong, picks)

    def test_no_picks(self):
        for call in CALLS:
            for wrong in NO_WORDS:
                check_raises(self, BadPicks, {"thing": wrong}, call, ONE, "", wrong)
            for machine, word in ((ONE, ""), (SEEK, "b"), (SIDES, "rr")):
                for wrong in wrong_picks(machine, word):
                    check_raises(self, BadPicks, {"thing": wrong}, call, machine, word, wrong)

    def test_too_few_and_all_picks(self):
        picks = "ayb" + "aybl" * 4
        for many in range(len(picks)):
            begun = picks[:many]
            check_raises(self, BadPicks, {"thing": begun}, game_won, ONE, "", begun)
            self.assertIn(winning_player(ONE, "", begun), PLAYERS)
        check_raises(self, BadPicks, {"thing": picks}, honest_pick, ONE, "", picks)
        self.assertEqual(depth(ONE), ((0, 4),))
