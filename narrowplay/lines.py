"""Single lines of texts: tests, and commands without other commands in them."""

from narrowplay.scripts import is_command, is_test


def test_text(test):
    """Return the text of a test."""
    nots = ""
    while test[0] == "not":
        nots = nots + "not "
        test = test[1]
    return nots + plain_test_text(test)


def plain_test_text(test):
    """Return the text of a test that is not a "not"."""
    match test:
        case ("is", tape, index, letter):
            return f"{tape}[{index}] is {letter}"
        case ("equal", tape, index, other, at):
            return f"{tape}[{index}] equals {other}[{at}]"
        case ("empty", tape, index):
            return f"{tape}[{index}] empty"
        case ("inside", tape, index):
            return f"{tape} has {index}"
    return f"{test[1]} = {test[2]}"


def command_text(command):
    """Return the line of a command that has no other commands in it."""
    match command:
        case ("set", tape, index, letter):
            return f"{tape}[{index}] = {letter}"
        case ("copy", tape, index, other, at):
            return f"{tape}[{index}] = {other}[{at}]"
        case ("clear", tape, index):
            return f"{tape}[{index}] = empty"
        case ("zero", index):
            return f"{index} = 0"
        case ("same", index, other):
            return f"{index} = {other}"
        case ("choose", player, tape, index, letters):
            return f"{player} chooses {tape}[{index}] from {letters}"
        case ("wins", player):
            return f"{player} wins"
    return f"{command[0]} {command[1]}"


def test_or_none(text):
    """Return the test with a text, None if a string is no such text."""
    words = text.split(" ")
    nots = 0
    while nots < len(words) and words[nots] == "not":
        nots = nots + 1
    test = plain_test_like(words[nots:])
    if not is_test(test):
        return None
    for _ in range(nots):
        test = ("not", test)
    return test


def plain_test_like(words):
    """Return what would be a test if all its parts were right, None if no test has such words."""
    match words:
        case [cell, "is", letter]:
            return ("is",) + cell_names(cell) + (letter,)
        case [cell, "equals", other]:
            return ("equal",) + cell_names(cell) + cell_names(other)
        case [cell, "empty"]:
            return ("empty",) + cell_names(cell)
        case [tape, "has", index]:
            return ("inside", tape, index)
        case [index, "=", other]:
            return ("at", index, other)
    return None


def command_or_none(text):
    """Return the command with a line, if it has no other commands in it; None for any other string."""
    command = command_like(text.split(" "))
    return command if is_command(command) else None


def command_like(words):
    """Return what would be a command if all its parts were right, None if no command has such words."""
    match words:
        case [cell, "=", "empty"]:
            return ("clear",) + cell_names(cell)
        case [target, "=", source]:
            return cell_like(target, source) if "[" in target else index_like(target, source)
        case [player, "chooses", cell, "from", letters]:
            return ("choose", player) + cell_names(cell) + (letters,)
        case [player, "wins"]:
            return ("wins", player)
        case [word, name] if word in ("up", "down", "do"):
            return (word, name)
    return None


def cell_like(target, source):
    """Return what would be a "set" or a "copy" if all its parts were right."""
    if "[" in source:
        return ("copy",) + cell_names(target) + cell_names(source)
    return ("set",) + cell_names(target) + (source,)


def index_like(target, source):
    """Return what would be a "zero" or a "same" if all its parts were right."""
    return ("zero", target) if source == "0" else ("same", target, source)


def cell_names(text):
    """Return the pair of strings of which a text like a[i] is made, two empty ones for another string."""
    if not text.endswith("]"):
        return ("", "")
    tape, _, index = text[:-1].partition("[")
    return (tape, index)
