"""Programs played by halves, and the halving game."""

from narrowplay.claims import Game
from narrowplay.errors import BadPicks
from narrowplay.halfplays import program_of_game
from narrowplay.machines import check_machine, check_machine_and_word, depth
from narrowplay.polys import constant, product_of, sum_of


def halving_program(machine):
    """Return a program whose plays are those of the halving game of a machine."""
    check_machine(machine)
    return program_of_game(machine)


def many_choices(machine):
    """Return the polynomial for the number of choices in the halving game."""
    rounds = depth(machine)
    length = sum_of(product_of(constant(2), machine[3]), constant(1))
    return sum_of(product_of(sum_of(rounds, constant(1)), length), rounds)


def claim_after(machine, word, picks):
    """Return the claim after the last complete B or round, None before the first B is complete."""
    return checked_game(machine, word, picks).claim(picks)


def asked_after(machine, word, picks):
    """Return the pair of the player and the letters of the next choice, None at the end."""
    return checked_game(machine, word, picks).asked(len(picks))


def game_won(machine, word, picks):
    """Return the player who has won at the end."""
    game = checked_game(machine, word, picks)
    if len(picks) < game.many:
        raise BadPicks(picks)
    return game.winner(picks)


def winning_player(machine, word, picks):
    """Return the player who wins from picks."""
    return checked_game(machine, word, picks).winner(picks)


def honest_pick(machine, word, picks):
    """Return a letter of the next choice with which the player who chooses wins, if there is one."""
    game = checked_game(machine, word, picks)
    if len(picks) == game.many:
        raise BadPicks(picks)
    player, letters = game.asked(len(picks))
    for letter in letters:
        if game.winner(picks + letter) == player:
            return letter
    return letters[0]


def checked_game(machine, word, picks):
    """Return the halving game of a machine and a word, or raise the error for the first of three wrong values."""
    check_machine_and_word(machine, word)
    game = Game(machine, word)
    if not isinstance(picks, str) or not game.allows(picks):
        raise BadPicks(picks)
    return game
