"""Faults of scripts, their certificates, and programs."""

from narrowplay.basics import is_integer
from narrowplay.errors import BadProgram, BadScript
from narrowplay.scripts import COMMANDS, TESTS, is_script


def judge_script(script):
    """Return a certificate for a script: that it fits, or one of its faults."""
    faults = faults_of(script)
    return faults[0] if faults else ("fit",)


def script_holds(script, thing):
    """Return whether any value is a right certificate for a script."""
    faults = faults_of(script)
    if not faults:
        return thing == ("fit",)
    return is_with_path(thing) and thing in faults


def is_program(thing):
    """Return whether any value is a program."""
    return is_script(thing) and not faults_of(thing)


def check_program(program):
    """Raise the error for a value that is not a program."""
    if not is_program(program):
        raise BadProgram(program)


def is_with_path(thing):
    """Return whether any value is a pair of something and a tuple of integers."""
    if not isinstance(thing, tuple) or len(thing) != 2 or not isinstance(thing[1], tuple):
        return False
    return all(is_integer(at) for at in thing[1])


def faults_of(script):
    """Return all faults of a script."""
    if not is_script(script):
        raise BadScript(script)
    tapes, indexes, procedures = script
    known = {"tape": ["input"] + names_of(tapes), "index": names_of(indexes), "procedure": []}
    faults = twice_faults(0, ["input"], tapes) + twice_faults(1, [], indexes) + twice_faults(2, [], procedures)
    for at, (name, commands) in enumerate(procedures):
        faults.extend(block_faults(commands, (2, at, 1), known))
        # Only now, as a procedure may not be done by itself.
        known["procedure"].append(name)
    return faults


def names_of(pairs):
    """Return the names of tapes, of indexes or of procedures, in order."""
    return [pair[0] for pair in pairs]


def twice_faults(sort, taken, pairs):
    """Return the faults of the pairs of a sort whose name is taken, or that of an earlier one."""
    faults = []
    for at, name in enumerate(names_of(pairs)):
        if name in taken or name in names_of(pairs[:at]):
            faults.append(("twice", (sort, at, 0)))
    return faults


def block_faults(commands, path, known):
    """Return the faults in a block at a path; known has the names that may stand in it, by their kinds."""
    faults = []
    for at, command in enumerate(commands):
        faults.extend(written_faults(command, path + (at,)))
        faults.extend(part_faults(command, path + (at,), COMMANDS[command[0]], known))
    return faults


def written_faults(command, path):
    """Return the fault of a command at a path that writes to the input."""
    kinds = COMMANDS[command[0]]
    # The first tape of a command, if it has one, is the one that it writes to.
    for at, kind in enumerate(kinds, start=1):
        if kind == "tape":
            return [("input", path + (at,))] if command[at] == "input" else []
    return []


def part_faults(whole, path, kinds, known):
    """Return the faults of names in a command or a test at a path, and in what it has in it."""
    faults = []
    for at, kind in enumerate(kinds, start=1):
        if kind == "block":
            faults.extend(block_faults(whole[at], path + (at,), known))
        elif kind == "test":
            faults.extend(test_faults(whole[at], path + (at,), known))
        elif kind in known and whole[at] not in known[kind]:
            faults.append(("unknown", path + (at,)))
    return faults


def test_faults(test, path, known):
    """Return the faults in a test at a path."""
    while test[0] == "not":
        test = test[1]
        path = path + (1,)
    return part_faults(test, path, TESTS[test[0]], known)
