"""Programs of one player."""

from narrowplay.errors import NotOfOne
from narrowplay.faults import check_program
from narrowplay.plans import checked_setting
from narrowplay.polys import is_word
from narrowplay.trees import best


def is_of_one(program):
    """Return whether a program is of one player."""
    check_program(program)
    return all(is_block_of_one(commands) for _, commands in program[2])


def is_block_of_one(commands):
    """Return whether in a block, and in the blocks within it, no one chooses but one."""
    return all(is_command_of_one(command) for command in commands)


def is_command_of_one(command):
    """Return whether a command is no choice of two, and there is none in its blocks."""
    match command:
        case ("choose", player, _, _, _):
            return player == "one"
        case ("repeat", _, block):
            return is_block_of_one(block)
        case ("if", _, block, others):
            return is_block_of_one(block) and is_block_of_one(others)
    return True


def winning_picks(program, word):
    """Return picks with which one wins a play, all of them taken, None if there are none."""
    player, plan = best(setting_of_one(program, word), "")
    if player != "one":
        return None
    picks = ""
    while plan[0] == "pick":
        picks = picks + plan[1]
        plan = plan[2]
    return picks


def picks_hold(program, word, thing):
    """Return whether any value is picks with which one wins a play, all of them taken."""
    setting = setting_of_one(program, word)
    if not is_word(thing):
        return False
    told = setting.told(thing)
    return told[:2] == ("won", "one") and told[3] == len(thing)


def setting_of_one(program, word):
    """Return a program of one player with a word, ready for plays, or raise the error for the first wrong one."""
    if not is_of_one(program):
        raise NotOfOne()
    return checked_setting(program, word)
