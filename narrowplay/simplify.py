"""Simplifying steps of programs, and programs with the players exchanged."""

from narrowplay.errors import BadStep
from narrowplay.faults import check_program, is_with_path


def steps_from(program):
    """Return the ascending tuple of all simplifying steps of a program."""
    check_program(program)
    steps = []
    for at, (_, commands) in enumerate(program[2]):
        steps.extend(block_steps(commands, (2, at, 1)))
    return tuple(sorted(steps))


def is_step(program, thing):
    """Return whether any value is a simplifying step of a program."""
    steps = steps_from(program)
    return is_with_path(thing) and thing in steps


def after_step(program, step):
    """Return a program after one of its simplifying steps."""
    if not is_step(program, step):
        raise BadStep(step)
    word, path = step
    return with_items(program, path, items_after(word, item_at(program, path)))


def simplified(program):
    """Return a program after simplifying it until there is no step."""
    steps = steps_from(program)
    while steps:
        program = after_step(program, steps[0])
        steps = steps_from(program)
    return program


def block_steps(commands, path):
    """Return the steps in the block at a path."""
    steps = []
    has_ended = False
    for at, command in enumerate(commands):
        if has_ended:
            steps.append(("late", path + (at,)))
        steps.extend(command_steps(command, path + (at,)))
        has_ended = has_ended or command[0] == "wins"
    return steps


def command_steps(command, path):
    """Return the steps at the command at a path, but for "late", and those in its test and its blocks."""
    match command:
        case ("if", test, block, others):
            inner = test_steps(test, path + (1,)) + block_steps(block, path + (2,)) + block_steps(others, path + (3,))
            return if_steps(command, path) + inner
        case ("repeat", poly, block):
            inner = block_steps(block, path + (2,))
            return inner if poly and block else [("hollow", path)] + inner
        case ("same", index, other):
            return [("idle", path)] if index == other else []
        case ("copy", tape, index, other, at):
            return [("idle", path)] if (tape, index) == (other, at) else []
        case ("choose", _, _, _, letters):
            return [("single", path)] if len(letters) == 1 else []
    return []


def if_steps(command, path):
    """Return the steps at the "if" at a path itself."""
    _, test, commands, others = command
    steps = []
    if test[0] == "not":
        steps.append(("flip", path))
    if not commands and not others:
        steps.append(("hollow", path))
    if test[0] == "at" and test[1] == test[2]:
        steps.append(("sure", path))
    return steps


def test_steps(test, path):
    """Return the steps at the test at a path, and at the tests in it."""
    steps = []
    while test[0] == "not":
        if test[1][0] == "not":
            steps.append(("twice", path))
        test = test[1]
        path = path + (1,)
    return steps


def item_at(whole, path):
    """Return what is at a path in a tuple."""
    for at in path:
        whole = whole[at]
    return whole


def items_after(word, item):
    """Return the tuple of the items that a step with a word puts in place of a command or a test."""
    if word == "flip":
        _, test, commands, others = item
        return (("if", test[1], others, commands),)
    if word == "single":
        _, _, tape, index, letter = item
        return (("set", tape, index, letter),)
    if word == "sure":
        return item[2]
    if word == "twice":
        return (item[1][1],)
    return ()


def with_items(whole, path, items):
    """Return a tuple with some items in place of the one at a path that is not ()."""
    at = path[0]
    if len(path) > 1:
        items = (with_items(whole[at], path[1:], items),)
    return whole[:at] + items + whole[at + 1:]


def exchanged(program):
    """Return a program with the players exchanged, in which one wins a play that comes to its end."""
    check_program(program)
    tapes, indexes, procedures = program
    turned = [(name, exchanged_block(commands)) for name, commands in procedures]
    main, block = turned.pop() if turned else ("main", ())
    turned.append((main, block + (("wins", "one"),)))
    return (tapes, indexes, tuple(turned))


def exchanged_block(commands):
    """Return a block with the other player in each "choose" and each "wins"."""
    return tuple([exchanged_command(command) for command in commands])


def exchanged_command(command):
    """Return a command with the other player in it, or in the commands in it."""
    match command:
        case ("choose", player, tape, index, letters):
            return ("choose", other_player(player), tape, index, letters)
        case ("wins", player):
            return ("wins", other_player(player))
        case ("repeat", poly, block):
            return ("repeat", poly, exchanged_block(block))
        case ("if", test, block, others):
            return ("if", test, exchanged_block(block), exchanged_block(others))
    return command


def other_player(player):
    """Return the player who is not a player."""
    return "two" if player == "one" else "one"
