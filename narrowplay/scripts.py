"""The shapes of names, tests, commands and scripts."""

from narrowplay.basics import is_ascending, is_letter
from narrowplay.polys import is_poly, is_word

KEYWORDS = (
    "tape", "size", "index", "to", "procedure", "end", "if", "else", "repeat", "do", "one", "two", "chooses",
    "from", "wins", "is", "equals", "empty", "has", "not", "up", "down", "n",
)

# The kinds of the parts that follow the first word of each test and of each command.
# A "not" is missing: it is the only test with a test in it, and is_test goes through it by itself.
TESTS = {
    "is": ("tape", "index", "letter"),
    "equal": ("tape", "index", "tape", "index"),
    "empty": ("tape", "index"),
    "inside": ("tape", "index"),
    "at": ("index", "index"),
}
COMMANDS = {
    "set": ("tape", "index", "letter"),
    "copy": ("tape", "index", "tape", "index"),
    "clear": ("tape", "index"),
    "zero": ("index",),
    "up": ("index",),
    "down": ("index",),
    "same": ("index", "index"),
    "if": ("test", "block", "block"),
    "repeat": ("poly", "block"),
    "do": ("procedure",),
    "choose": ("player", "tape", "index", "letters"),
    "wins": ("player",),
}


def is_name(thing):
    """Return whether any value is a name."""
    if not isinstance(thing, str) or not 1 <= len(thing) <= 12:
        return False
    if not is_letter(thing[0]) or thing in KEYWORDS:
        return False
    return all(is_letter(sign) or sign in "0123456789_" for sign in thing)


def is_player(thing):
    """Return whether any value is a player."""
    return thing in ("one", "two")


def is_letters(thing):
    """Return whether any value is an ascending string of one or more letters."""
    return is_word(thing) and thing != "" and is_ascending(thing)


def is_test(thing):
    """Return whether any value is a test."""
    while first_word(thing) == "not" and len(thing) == 2:
        thing = thing[1]
    kinds = TESTS.get(first_word(thing))
    return kinds is not None and are_parts(thing[1:], kinds)


def is_command(thing):
    """Return whether any value is a command."""
    waiting = [thing]
    while waiting:
        command = waiting.pop()
        kinds = COMMANDS.get(first_word(command))
        if kinds is None or not are_parts(command[1:], kinds):
            return False
        for part, kind in zip(command[1:], kinds):
            if kind == "block":
                waiting.extend(part)
    return True


def first_word(thing):
    """Return the string that any value begins with, if it is a tuple that begins with one, otherwise None."""
    if isinstance(thing, tuple) and len(thing) > 0 and isinstance(thing[0], str):
        return thing[0]
    return None


def are_parts(parts, kinds):
    """Return whether there is one part of each kind, in order; of a block the commands are not looked at."""
    if len(parts) != len(kinds):
        return False
    return all(is_part(part, kind) for part, kind in zip(parts, kinds))


def is_part(thing, kind):
    """Return whether any value is a part of a kind; of a block the commands are not looked at."""
    if kind == "letter":
        return is_letter(thing)
    if kind == "letters":
        return is_letters(thing)
    if kind == "player":
        return is_player(thing)
    if kind == "poly":
        return is_poly(thing)
    if kind == "test":
        return is_test(thing)
    if kind == "block":
        return isinstance(thing, tuple)
    return is_name(thing)


def is_script(thing):
    """Return whether any value is a script."""
    if not isinstance(thing, tuple) or len(thing) != 3:
        return False
    if not all(isinstance(part, tuple) for part in thing):
        return False
    tapes, indexes, procedures = thing
    if not all(is_named(pair) and is_poly(pair[1]) for pair in tapes + indexes):
        return False
    return all(is_named(pair) and is_block(pair[1]) for pair in procedures)


def is_named(thing):
    """Return whether any value is a pair that begins with a name."""
    return isinstance(thing, tuple) and len(thing) == 2 and is_name(thing[0])


def is_block(thing):
    """Return whether any value is a tuple of commands."""
    return isinstance(thing, tuple) and all(is_command(command) for command in thing)
