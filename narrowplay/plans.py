"""Winners and plans of programs."""

from narrowplay.errors import BadPicks, BadPlayer
from narrowplay.plays import Setting, check_program_and_word
from narrowplay.polys import is_word
from narrowplay.scripts import is_player
from narrowplay.trees import best, ends, is_plan


def winner(program, word):
    """Return the player who wins from the empty picks."""
    return best(checked_setting(program, word), "")[0]


def many_plays(program, word):
    """Return with how many picks a play ends that takes all of them."""
    return len(ends(checked_setting(program, word), ""))


def make_plan(program, word):
    """Return a plan of the winner from the empty picks."""
    return best(checked_setting(program, word), "")[1]


def plan_holds(program, word, player, thing):
    """Return whether any value is a plan of a player from the empty picks."""
    setting = checked_setting(program, word)
    if not is_player(player):
        raise BadPlayer(player)
    return is_plan(setting, "", player, thing)


def wins_from(program, word, picks):
    """Return the player who wins from picks with which a play asks or has ended."""
    setting = checked_setting(program, word)
    if not is_word(picks) or not is_in_tree(setting.told(picks), picks):
        raise BadPicks(picks)
    return best(setting, picks)[0]


def checked_setting(program, word):
    """Return a program with a word, ready for plays, or raise the error for the first wrong one of them."""
    check_program_and_word(program, word)
    return Setting(program, word)


def is_in_tree(told, picks):
    """Return whether a play that came to what is told asks or has ended with exactly these picks."""
    return told[0] == "asks" or (told[0] == "won" and told[3] == len(picks))
